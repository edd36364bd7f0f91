/-
  CONTRACTS of package axes: siblings.
-/
import Derived.Test.YtnfljohddpadhaaDoorStFar
import Derived.Deep.QuietTactic
import Derived.BigQuiet
import Derived.WalkLawsBesides
import Derived.Outline
import Derived.Deep.RegionHeld3
import Derived.Deep.RegionLaw
import Derived.Laws.EntriesVeiled
set_option linter.unusedVariables false
namespace Go.Proofs.YtnfljohddpadhaaDoor
set_option maxRecDepth 100000
open Go.RowKit Go.WideShapes

set_option maxHeartbeats 6400000 in
theorem followingSiblings_is (la : Option Addr) (lb lo N lcap : Nat) (E : Nat → Nd) (ca : Option Addr) (K ccap M : Nat) (cb co : Nat) (C : Nat → Nat) (S : Nat → Prop) (w : World) (t : Tr E N) (hcap : K ≤ ccap) (hK : ccap ≤ maxLen) (hw : Wk w la lb lo N lcap E) (hM : lb ≠ M) (hC : CxAt w ca cb co K C) (hcM : cb ≠ M) (hCN : ∀ j, j < K → C j < N) (hS : Seen w M S) (hlb : lb < w.heap.size) (hcb : cb < w.heap.size) :
    Calls Tryd.prog 38 #[.agg #[.slice la N lcap, .slice ca K ccap, .map (some M)]] w fun e w' => e = .returned (.tuple #[]) ∧ Seen w' M (fun i => S i ∨ ∃ g c : Nat, (bst (fun a b => decide ((a : Int) < (b : Int))) (fun c => rowP (E c)) C K) (g : Int) = some c ∧ (c + zN E c + 1 ≤ i ∧ i ≤ g + zN E g) ∧ (E i).parent = (g : Int) ∧ (E i).kind ≠ 2) ∧ Kept (fun b => b = M) w w' := by
  have hlt := hS.lt
  obtain ⟨W1, hW1⟩ : ∃ W, W = (w.alloc (.cells #[.slice la N lcap, .slice ca K ccap, .map (some M)] 39)) := ⟨_, rfl⟩
  have hz1 : W1.heap.size = w.heap.size + 1 := by rw [hW1]; simp
  have b1 : Below w.heap.size w W1 := by rw [hW1]; exact (Below.refl _ _).alloc (Nat.le_refl _) _
  have HX1 : Hid (BoxAt W1 w.heap.size la N lcap ca K ccap M) := by rw [hW1]; exact heap_alloc_new _ _
  have HW1 := hidS (hw.below b1)
  have HS1 : Hid (Seen W1 M S) := Seen.keep hS (b1.block M hlt)
  have HT := hidS t
  have q2 := hw.n
  have HB1 := hidS b1
  have CB : Hid (Calls Tryd.prog 54 #[.agg #[.slice la N lcap, .slice ca K ccap, .map (some M)], .func (.func 57) #[.agg #[.slice la N lcap, .slice ca K ccap, .map (some M)]] #[], .func (.func 58) #[] #[]] W1 fun e w' => ∃ O, e = .returned (.map (some O)) ∧ W1.heap.size ≤ O ∧ IMap w' O (ofV (bst (fun a b => decide ((a : Int) < (b : Int))) (fun c => rowP (E c)) C K)) ∧ Kept (fun b => False) W1 w') :=
    (best_rows 58 #[] #[] (fun a b => decide ((a : Int) < (b : Int))) la lb lo N lcap E ca K ccap M cb co C W1 t hcap hK (hw.below b1) (hC.keep (Kept.of_below (X := fun _ => False) b1) (fun h => h)) hCN (fun args V => by kernel_rfl) (fun V a b _ _ => (beginsFirst_is a b V).mono (by rintro e w' ⟨rfl, rfl⟩; exact ⟨rfl, Below.refl _ _⟩))).mono (by rintro e w' ⟨rfl, k1, k2⟩; exact ⟨_, rfl, by omega, k1, k2⟩)
  have HBS : Hid (∀ x c, (bst (fun a b => decide ((a : Int) < (b : Int))) (fun c => rowP (E c)) C K) x = some c → ∃ g : Nat, x = g ∧ g < N ∧ c < N ∧ (E c).parent = (g : Int) ∧ g < c ∧ c ≤ g + zN E g) := fun x c hxc => by
    by_cases hx0 : 0 ≤ x
    · rcases bst_is (fun a => (a : Int)) (fun a b => decide ((a : Int) < (b : Int))) (fun c => rowP (E c)) C (fun a b => by first | rfl | (show decide _ = decide _; congr 1; exact propext ⟨fun h => by omega, fun h => by omega⟩)) hx0 K with ⟨e, _⟩ | ⟨j, j1, e, e2, _⟩
      · rw [e] at hxc; cases hxc
      · rw [e] at hxc
        cases hxc
        have hj := hCN j j1
        have e3 : (E (C j)).parent = x := by
          have e4 : rowP (E (C j)) = x := e2
          unfold rowP at e4
          split at e4
          · omega
          · exact e4
        rcases t.up (C j) hj with k | ⟨p, k1, k2, k3⟩
        · omega
        · exact ⟨p, by omega, by omega, hj, k1, k2, k3⟩
    · rw [bst_neg _ _ _ (by omega)] at hxc
      cases hxc
  have CL : Hid (∀ (W : World) (n : Nat), n < N → Wk W la lb lo N lcap E → Calls Tryd.prog 29 #[.agg #[.slice la N lcap, .slice ca K ccap, .map (some M)], .int .i64 (n : Int)] W fun e w' => e = .returned (.int .i64 ((n + zN E n : Nat) : Int)) ∧ Below W.heap.size W w') := fun W n hn hW => last_is la lb lo N lcap E ca K ccap M n W t hW hn
  have CW : Hid (∀ (W : World) (S' : Nat → Prop) (p f o : Nat), p < N → Row1 E p f → o ≤ p + zN E p → Wk W la lb lo N lcap E → Seen W M S' → Calls Tryd.prog 28 #[.agg #[.slice la N lcap, .slice ca K ccap, .map (some M)], .int .i64 (f : Int), .int .i64 (o : Int), .func (.func 30) #[.agg #[.slice la N lcap, .slice ca K ccap, .map (some M)]] #[]] W fun e w' => e = .returned (.tuple #[]) ∧ Seen w' M (fun i => S' i ∨ ((f ≤ i ∧ i ≤ o) ∧ (E i).parent = (p : Int) ∧ (E i).kind ≠ 2)) ∧ Kept (fun b => b = M) W w') := fun W S' p f o hp hf ho hW hs => row_gen 30 (fun i => (E i).kind ≠ 2) la lb lo N lcap E ca K ccap M p f o S' W t hW hM hs hp hf ho (fun args V => by kernel_rfl) (fun V S'' n hn hV hs' => seeOther_is la lb lo N lcap E ca K ccap M n S'' V t hV hn hs')
  generalize (bst (fun a b => decide ((a : Int) < (b : Int))) (fun c => rowP (E c)) C K) = BS at *
  clear hw hC hS t hCN b1
  obtain ⟨x0, x1, x2⟩ := HX1.out.cells
  go_enter Tryd.func38, Tryd.ntmps38
  go_upto_region 1 with fail
  rw [← hW1]
  clear hW1
  go_wp2_with (go_at_call 54; refine CB.out.mono ?_; rintro e w3 ⟨O, rfl, hO1, f2, f3⟩; obtain ⟨w4, left4, hrun4, hr4, hz4, hk4, ho4, ht4, hp4⟩ := f2.range (t := 63) Tryd.underlying63; have HR4 := hidS hr4; have HB4 : Hid (Below W1.heap.size W1 w4) := ((f3.below (Nat.le_refl _) (fun _ h => h.elim)).trans ⟨ho4, ht4, hp4, by omega, fun b hb => hk4 b (by have := f3.size; omega)⟩); have hz34 := f3.size; clear CB f2 f3 hr4 hk4 ho4 ht4 hp4)
  have HK4 : Hid (Kept (fun b => b = M) W1 w4) := Kept.of_below HB4.out
  have HS4 : Hid (Seen w4 M S) := Seen.keep HS1.out (HB4.out.block M (by omega))
  clear hrun4
  generalize hrr : w3.heap.size = r at *
  have hr1 : W1.heap.size ≤ r := hz34
  clear hrr hz34 hz4 x0 x1 x2 HB4 HS1
  go_loopw [9] (fun _ wr => ∃ (D : Int → Prop) (left : Nat), IRng wr r O (ofV BS) D left ∧ Seen wr M (fun i => S i ∨ ∃ g c : Nat, D (g : Int) ∧ BS (g : Int) = some c ∧ (c + zN E c + 1 ≤ i ∧ i ≤ g + zN E g) ∧ (E i).parent = (g : Int) ∧ (E i).kind ≠ 2) ∧ Kept (fun b => b = M) W1 wr) (fun _ wr => leftI wr O r)
  case atStart => exact ⟨_, _, HR4.out, Seen.congr HS4.out (fun i => ⟨.inl, fun h => h.elim id (fun ⟨g, c, h, _⟩ => h.elim)⟩), HK4.out⟩
  case round =>
    clear HR4 HS4 HK4
    obtain ⟨D, left, hrg, hsn, hkp⟩ := hrel
    have HR := hidS hrg
    have HSN := hidS hsn
    have HKP := hidS hkp
    obtain ⟨hOl, hrl, hrO⟩ := hrg.lt
    clear hrg hsn hkp
    go_wp2_with (refine wpList_inext rfl (.tmp 8) rfl r O (ofV BS) D left (by simp [Act.eval]) HR.out ?_ ?_)
    rotate_left
    · intro x v w5 left5 hx hnd hen hlt5 hr5 ht5
      obtain ⟨c, hbc, rfl⟩ : ∃ c : Nat, BS x = some c ∧ v = .int .i64 (c : Int) := by
        unfold ofV at hx
        cases hb : BS x with
        | none => rw [hb] at hx; cases hx
        | some c => rw [hb] at hx; cases hx; exact ⟨c, rfl, rfl⟩
      obtain ⟨g, rfl, hgN, hcN, hpar, hgc, hcg⟩ := HBS.out x c hbc
      have HR5 := hidS hr5
      have HS5 : Hid (Seen w5 M _) := Seen.keep HSN.out (ht5.2.1 M (by omega))
      have HK5 : Hid (Kept (fun b => b = M) W1 w5) := HKP.out.trans' (Kept.of_turned (X := fun b => b = r) ht5 rfl) (fun i hi e => by omega)
      have HLF : Hid (leftI wr O r = left) := HR.out.left
      have HBC := hidS hbc
      obtain ⟨z0, z1, z2⟩ := (HX1.out.keep HK5.out (by omega)).cells
      have hgz := (HT.out.sz g hgN).2
      have hcz := (HT.out.sz c hcN).2
      have hz5 : wr.heap.size = w5.heap.size := ht5.1.symm
      have HFR : Hid (Row1 E g (c + zN E c + 1)) := ((Row1.of HT.out hcN hpar).step HT.out hgN hcg).2
      have HX5 : Hid (∀ W, Kept (fun b => b = M) w5 W → (W.cell? ⟨w.heap.size, 0, none⟩ = some (.slice la N lcap) ∧ W.cell? ⟨w.heap.size, 1, none⟩ = some (.slice ca K ccap) ∧ W.cell? ⟨w.heap.size, 2, none⟩ = some (.map (some M)))) := fun W hW => (HX1.out.keep (HK5.out.trans hW) (by omega)).cells
      have CW5 : Hid (∀ W, Below w5.heap.size w5 W → Calls Tryd.prog 28 #[.agg #[.slice la N lcap, .slice ca K ccap, .map (some M)], .int .i64 ((c + zN E c + 1 : Nat) : Int), .int .i64 ((g + zN E g : Nat) : Int), .func (.func 30) #[.agg #[.slice la N lcap, .slice ca K ccap, .map (some M)]] #[]] W fun e w' => e = .returned (.tuple #[]) ∧ Seen w' M (fun i => (S i ∨ ∃ g c : Nat, D (g : Int) ∧ BS (g : Int) = some c ∧ (c + zN E c + 1 ≤ i ∧ i ≤ g + zN E g) ∧ (E i).parent = (g : Int) ∧ (E i).kind ≠ 2) ∨ ((c + zN E c + 1 ≤ i ∧ i ≤ g + zN E g) ∧ (E i).parent = (g : Int) ∧ (E i).kind ≠ 2)) ∧ Kept (fun b => b = M) W w') := fun W hW => CW.out W _ g (c + zN E c + 1) (g + zN E g) hgN HFR.out (by omega) (HW1.out.keep (HK5.out.trans (Kept.of_below hW)) hM) (Seen.keep HS5.out (hW.block M HS5.out.lt))
      have CC5 : Hid (∀ W, Below w5.heap.size w5 W → Calls Tryd.prog 29 #[.agg #[.slice la N lcap, .slice ca K ccap, .map (some M)], .int .i64 (c : Int)] W fun e w' => e = .returned (.int .i64 ((c + zN E c : Nat) : Int)) ∧ Below W.heap.size W w') := fun W hW => CL.out W c hcN (HW1.out.keep (HK5.out.trans (Kept.of_below hW)) hM)
      have CG5 : Hid (∀ W, Below w5.heap.size w5 W → Calls Tryd.prog 29 #[.agg #[.slice la N lcap, .slice ca K ccap, .map (some M)], .int .i64 (g : Int)] W fun e w' => e = .returned (.int .i64 ((g + zN E g : Nat) : Int)) ∧ Below W.heap.size W w') := fun W hW => CL.out W g hgN (HW1.out.keep (HK5.out.trans (Kept.of_below hW)) hM)
      clear hx hbc hr5 ht5 HR HSN HKP hnd CW CL HFR hpar
      have hwr : IntKind.i64.wrap (((c + zN E c : Nat) : Int) + 1) = ((c + zN E c + 1 : Nat) : Int) := by rw [IntWalk.i64_in _ (by omega)]; omega
      generalize hzf : ((c + zN E c + 1 : Nat) : Int) = zf at *
      generalize hzc : ((c + zN E c : Nat) : Int) = zc at *
      generalize hzg : ((g + zN E g : Nat) : Int) = zg at *
      go_upto_region 4 with fail
      go_region_held3 (fun W => W.cell? ⟨w.heap.size, 0, none⟩ = some (.slice la N lcap) ∧ W.cell? ⟨w.heap.size, 1, none⟩ = some (.slice ca K ccap) ∧ W.cell? ⟨w.heap.size, 2, none⟩ = some (.map (some M)))
        ((refine HX5.out _ ?_; repeat (first | exact Hid.out (by assumption) | exact Kept.refl _ _ | refine Kept.drew ?_)))
        (first
          | (go_at_call 29; refine (CC5.out _ ?_).mono ?_; (focus (repeat (first | exact Hid.out (by assumption) | exact Below.refl _ _ | refine Below.drew ?_))); rintro e w6 ⟨rfl, hb6⟩; have HB6 : Hid (Below w5.heap.size w5 w6) := (⟨hb6.os, hb6.tape, hb6.output, hb6.size, hb6.block⟩ : Below w5.heap.size w5 w6); have HK6 : Hid (Kept (fun b => b = M) w5 w6) := Kept.of_below HB6.out; clear hb6 CC5)
          | (go_at_call 29; refine (CG5.out _ ?_).mono ?_; (focus (repeat (first | exact Hid.out (by assumption) | exact Below.refl _ _ | refine Below.drew ?_))); rintro e w7 ⟨rfl, hb7⟩; have HB7 : Hid (Below w5.heap.size w5 w7) := (HB6.out.trans ((⟨hb7.os, hb7.tape, hb7.output, hb7.size, hb7.block⟩ : Below w6.heap.size w6 w7).mono HB6.out.size)); have HK7 : Hid (Kept (fun b => b = M) w5 w7) := Kept.of_below HB7.out; clear hb7 CG5)
          | (go_at_call 28; refine (CW5.out _ ?_).mono ?_; (focus (repeat (first | exact Hid.out (by assumption) | exact Below.refl _ _ | refine Below.drew ?_))); rintro e w8 ⟨rfl, hs8, hk8⟩; have HS8 := hidS hs8; have HK8 : Hid (Kept (fun b => b = M) w5 w8) := (HK7.out.trans (⟨hk8.os, hk8.tape, hk8.output, hk8.size, hk8.block⟩ : Kept (fun b => b = M) w7 w8)); clear hs8 hk8))
      all_goals
        go_wp2_with fail
        go_roundw
        case rel => exact ⟨_, left5, HR5.out.keep (HK8.out.block O (by omega) (by omega)) (HK8.out.block r (by omega) (by omega)), Seen.congr HS8.out (fun i => ⟨fun h => by
            rcases h with (h | ⟨g', c', h1, h2⟩) | h
            · exact .inl h
            · exact .inr ⟨g', c', .inl h1, h2⟩
            · exact .inr ⟨g, c, .inr rfl, HBC.out, h⟩, fun h => by
            rcases h with h | ⟨g', c', h1 | h1, h2, h3⟩
            · exact .inl (.inl h)
            · exact .inl (.inr ⟨g', c', h1, h2, h3⟩)
            · obtain rfl : g' = g := by omega
              rw [HBC.out] at h2
              cases h2
              exact .inr h3⟩), HK5.out.trans HK8.out⟩
        case measure => rw [(HR5.out.keep (HK8.out.block O (by omega) (by omega)) (HK8.out.block r (by omega) (by omega))).left, HLF.out]; exact hlt5
    intro hdone
    have HDN : Hid (∀ (g c : Nat), BS (g : Int) = some c → D (g : Int)) := fun g c h => hdone g (.int .i64 (c : Int)) (by unfold ofV; rw [h]; rfl)
    clear hdone
    go_wp2_with fail
    first | go_end0 | refine bodyPost_ret (results_none rfl _ _ _) rfl ?_
    exact ⟨rfl, Seen.congr HSN.out (fun i => ⟨fun h => h.elim .inl (fun ⟨g, c, h1, h2⟩ => .inr ⟨g, c, h2⟩), fun h => h.elim .inl (fun ⟨g, c, h2⟩ => .inr ⟨g, c, HDN.out g c h2.1, h2⟩)⟩), (Kept.of_below HB1.out).trans' HKP.out (fun i hi e => e)⟩
set_option maxHeartbeats 6400000 in
theorem precedingSiblings_is (la : Option Addr) (lb lo N lcap : Nat) (E : Nat → Nd) (ca : Option Addr) (K ccap M : Nat) (cb co : Nat) (C : Nat → Nat) (S : Nat → Prop) (w : World) (t : Tr E N) (hcap : K ≤ ccap) (hK : ccap ≤ maxLen) (hw : Wk w la lb lo N lcap E) (hM : lb ≠ M) (hC : CxAt w ca cb co K C) (hcM : cb ≠ M) (hCN : ∀ j, j < K → C j < N) (hS : Seen w M S) (hlb : lb < w.heap.size) (hcb : cb < w.heap.size) :
    Calls Tryd.prog 39 #[.agg #[.slice la N lcap, .slice ca K ccap, .map (some M)]] w fun e w' => e = .returned (.tuple #[]) ∧ Seen w' M (fun i => S i ∨ ∃ g c : Nat, (bst (fun a b => decide ((b : Int) < (a : Int))) (fun c => rowP (E c)) C K) (g : Int) = some c ∧ (g + 1 ≤ i ∧ i ≤ c - 1) ∧ (E i).parent = (g : Int) ∧ (E i).kind ≠ 2) ∧ Kept (fun b => b = M) w w' := by
  have hlt := hS.lt
  obtain ⟨W1, hW1⟩ : ∃ W, W = (w.alloc (.cells #[.slice la N lcap, .slice ca K ccap, .map (some M)] 39)) := ⟨_, rfl⟩
  have hz1 : W1.heap.size = w.heap.size + 1 := by rw [hW1]; simp
  have b1 : Below w.heap.size w W1 := by rw [hW1]; exact (Below.refl _ _).alloc (Nat.le_refl _) _
  have HX1 : Hid (BoxAt W1 w.heap.size la N lcap ca K ccap M) := by rw [hW1]; exact heap_alloc_new _ _
  have HW1 := hidS (hw.below b1)
  have HS1 : Hid (Seen W1 M S) := Seen.keep hS (b1.block M hlt)
  have HT := hidS t
  have q2 := hw.n
  have HB1 := hidS b1
  have CB : Hid (Calls Tryd.prog 54 #[.agg #[.slice la N lcap, .slice ca K ccap, .map (some M)], .func (.func 57) #[.agg #[.slice la N lcap, .slice ca K ccap, .map (some M)]] #[], .func (.func 56) #[] #[]] W1 fun e w' => ∃ O, e = .returned (.map (some O)) ∧ W1.heap.size ≤ O ∧ IMap w' O (ofV (bst (fun a b => decide ((b : Int) < (a : Int))) (fun c => rowP (E c)) C K)) ∧ Kept (fun b => False) W1 w') :=
    (best_rows 56 #[] #[] (fun a b => decide ((b : Int) < (a : Int))) la lb lo N lcap E ca K ccap M cb co C W1 t hcap hK (hw.below b1) (hC.keep (Kept.of_below (X := fun _ => False) b1) (fun h => h)) hCN (fun args V => by kernel_rfl) (fun V a b _ _ => (beginsLast_is a b V).mono (by rintro e w' ⟨rfl, rfl⟩; exact ⟨rfl, Below.refl _ _⟩))).mono (by rintro e w' ⟨rfl, k1, k2⟩; exact ⟨_, rfl, by omega, k1, k2⟩)
  have HBS : Hid (∀ x c, (bst (fun a b => decide ((b : Int) < (a : Int))) (fun c => rowP (E c)) C K) x = some c → ∃ g : Nat, x = g ∧ g < N ∧ c < N ∧ (E c).parent = (g : Int) ∧ g < c ∧ c ≤ g + zN E g) := fun x c hxc => by
    by_cases hx0 : 0 ≤ x
    · rcases bst_is (fun a => -(a : Int)) (fun a b => decide ((b : Int) < (a : Int))) (fun c => rowP (E c)) C (fun a b => by first | rfl | (show decide _ = decide _; congr 1; exact propext ⟨fun h => by omega, fun h => by omega⟩)) hx0 K with ⟨e, _⟩ | ⟨j, j1, e, e2, _⟩
      · rw [e] at hxc; cases hxc
      · rw [e] at hxc
        cases hxc
        have hj := hCN j j1
        have e3 : (E (C j)).parent = x := by
          have e4 : rowP (E (C j)) = x := e2
          unfold rowP at e4
          split at e4
          · omega
          · exact e4
        rcases t.up (C j) hj with k | ⟨p, k1, k2, k3⟩
        · omega
        · exact ⟨p, by omega, by omega, hj, k1, k2, k3⟩
    · rw [bst_neg _ _ _ (by omega)] at hxc
      cases hxc
  have CL : Hid (∀ (W : World) (n : Nat), n < N → Wk W la lb lo N lcap E → Calls Tryd.prog 29 #[.agg #[.slice la N lcap, .slice ca K ccap, .map (some M)], .int .i64 (n : Int)] W fun e w' => e = .returned (.int .i64 ((n + zN E n : Nat) : Int)) ∧ Below W.heap.size W w') := fun W n hn hW => last_is la lb lo N lcap E ca K ccap M n W t hW hn
  have CW : Hid (∀ (W : World) (S' : Nat → Prop) (p f o : Nat), p < N → Row1 E p f → o ≤ p + zN E p → Wk W la lb lo N lcap E → Seen W M S' → Calls Tryd.prog 28 #[.agg #[.slice la N lcap, .slice ca K ccap, .map (some M)], .int .i64 (f : Int), .int .i64 (o : Int), .func (.func 30) #[.agg #[.slice la N lcap, .slice ca K ccap, .map (some M)]] #[]] W fun e w' => e = .returned (.tuple #[]) ∧ Seen w' M (fun i => S' i ∨ ((f ≤ i ∧ i ≤ o) ∧ (E i).parent = (p : Int) ∧ (E i).kind ≠ 2)) ∧ Kept (fun b => b = M) W w') := fun W S' p f o hp hf ho hW hs => row_gen 30 (fun i => (E i).kind ≠ 2) la lb lo N lcap E ca K ccap M p f o S' W t hW hM hs hp hf ho (fun args V => by kernel_rfl) (fun V S'' n hn hV hs' => seeOther_is la lb lo N lcap E ca K ccap M n S'' V t hV hn hs')
  generalize (bst (fun a b => decide ((b : Int) < (a : Int))) (fun c => rowP (E c)) C K) = BS at *
  clear hw hC hS t hCN b1
  obtain ⟨x0, x1, x2⟩ := HX1.out.cells
  go_enter Tryd.func39, Tryd.ntmps39
  go_upto_region 1 with fail
  rw [← hW1]
  clear hW1
  go_wp2_with (go_at_call 54; refine CB.out.mono ?_; rintro e w3 ⟨O, rfl, hO1, f2, f3⟩; obtain ⟨w4, left4, hrun4, hr4, hz4, hk4, ho4, ht4, hp4⟩ := f2.range (t := 63) Tryd.underlying63; have HR4 := hidS hr4; have HB4 : Hid (Below W1.heap.size W1 w4) := ((f3.below (Nat.le_refl _) (fun _ h => h.elim)).trans ⟨ho4, ht4, hp4, by omega, fun b hb => hk4 b (by have := f3.size; omega)⟩); have hz34 := f3.size; clear CB f2 f3 hr4 hk4 ho4 ht4 hp4)
  have HK4 : Hid (Kept (fun b => b = M) W1 w4) := Kept.of_below HB4.out
  have HS4 : Hid (Seen w4 M S) := Seen.keep HS1.out (HB4.out.block M (by omega))
  clear hrun4
  generalize hrr : w3.heap.size = r at *
  have hr1 : W1.heap.size ≤ r := hz34
  clear hrr hz34 hz4 x0 x1 x2 HB4 HS1
  go_loopw [9] (fun _ wr => ∃ (D : Int → Prop) (left : Nat), IRng wr r O (ofV BS) D left ∧ Seen wr M (fun i => S i ∨ ∃ g c : Nat, D (g : Int) ∧ BS (g : Int) = some c ∧ (g + 1 ≤ i ∧ i ≤ c - 1) ∧ (E i).parent = (g : Int) ∧ (E i).kind ≠ 2) ∧ Kept (fun b => b = M) W1 wr) (fun _ wr => leftI wr O r)
  case atStart => exact ⟨_, _, HR4.out, Seen.congr HS4.out (fun i => ⟨.inl, fun h => h.elim id (fun ⟨g, c, h, _⟩ => h.elim)⟩), HK4.out⟩
  case round =>
    clear HR4 HS4 HK4
    obtain ⟨D, left, hrg, hsn, hkp⟩ := hrel
    have HR := hidS hrg
    have HSN := hidS hsn
    have HKP := hidS hkp
    obtain ⟨hOl, hrl, hrO⟩ := hrg.lt
    clear hrg hsn hkp
    go_wp2_with (refine wpList_inext rfl (.tmp 8) rfl r O (ofV BS) D left (by simp [Act.eval]) HR.out ?_ ?_)
    rotate_left
    · intro x v w5 left5 hx hnd hen hlt5 hr5 ht5
      obtain ⟨c, hbc, rfl⟩ : ∃ c : Nat, BS x = some c ∧ v = .int .i64 (c : Int) := by
        unfold ofV at hx
        cases hb : BS x with
        | none => rw [hb] at hx; cases hx
        | some c => rw [hb] at hx; cases hx; exact ⟨c, rfl, rfl⟩
      obtain ⟨g, rfl, hgN, hcN, hpar, hgc, hcg⟩ := HBS.out x c hbc
      have HR5 := hidS hr5
      have HS5 : Hid (Seen w5 M _) := Seen.keep HSN.out (ht5.2.1 M (by omega))
      have HK5 : Hid (Kept (fun b => b = M) W1 w5) := HKP.out.trans' (Kept.of_turned (X := fun b => b = r) ht5 rfl) (fun i hi e => by omega)
      have HLF : Hid (leftI wr O r = left) := HR.out.left
      have HBC := hidS hbc
      obtain ⟨z0, z1, z2⟩ := (HX1.out.keep HK5.out (by omega)).cells
      have hgz := (HT.out.sz g hgN).2
      have hcz := (HT.out.sz c hcN).2
      have hz5 : wr.heap.size = w5.heap.size := ht5.1.symm
      have HFR : Hid (Row1 E g (g + 1)) := Row1.start HT.out hgN
      have HX5 : Hid (∀ W, Kept (fun b => b = M) w5 W → (W.cell? ⟨w.heap.size, 0, none⟩ = some (.slice la N lcap) ∧ W.cell? ⟨w.heap.size, 1, none⟩ = some (.slice ca K ccap) ∧ W.cell? ⟨w.heap.size, 2, none⟩ = some (.map (some M)))) := fun W hW => (HX1.out.keep (HK5.out.trans hW) (by omega)).cells
      have CW5 : Hid (∀ W, Below w5.heap.size w5 W → Calls Tryd.prog 28 #[.agg #[.slice la N lcap, .slice ca K ccap, .map (some M)], .int .i64 ((g + 1 : Nat) : Int), .int .i64 ((c - 1 : Nat) : Int), .func (.func 30) #[.agg #[.slice la N lcap, .slice ca K ccap, .map (some M)]] #[]] W fun e w' => e = .returned (.tuple #[]) ∧ Seen w' M (fun i => (S i ∨ ∃ g c : Nat, D (g : Int) ∧ BS (g : Int) = some c ∧ (g + 1 ≤ i ∧ i ≤ c - 1) ∧ (E i).parent = (g : Int) ∧ (E i).kind ≠ 2) ∨ ((g + 1 ≤ i ∧ i ≤ c - 1) ∧ (E i).parent = (g : Int) ∧ (E i).kind ≠ 2)) ∧ Kept (fun b => b = M) W w') := fun W hW => CW.out W _ g (g + 1) (c - 1) hgN HFR.out (by omega) (HW1.out.keep (HK5.out.trans (Kept.of_below hW)) hM) (Seen.keep HS5.out (hW.block M HS5.out.lt))
      have CC5 : Hid (∀ W, Below w5.heap.size w5 W → Calls Tryd.prog 29 #[.agg #[.slice la N lcap, .slice ca K ccap, .map (some M)], .int .i64 (c : Int)] W fun e w' => e = .returned (.int .i64 ((c + zN E c : Nat) : Int)) ∧ Below W.heap.size W w') := fun W hW => CL.out W c hcN (HW1.out.keep (HK5.out.trans (Kept.of_below hW)) hM)
      have CG5 : Hid (∀ W, Below w5.heap.size w5 W → Calls Tryd.prog 29 #[.agg #[.slice la N lcap, .slice ca K ccap, .map (some M)], .int .i64 (g : Int)] W fun e w' => e = .returned (.int .i64 ((g + zN E g : Nat) : Int)) ∧ Below W.heap.size W w') := fun W hW => CL.out W g hgN (HW1.out.keep (HK5.out.trans (Kept.of_below hW)) hM)
      clear hx hbc hr5 ht5 HR HSN HKP hnd CW CL HFR hpar
      have hwr : IntKind.i64.wrap ((g : Int) + 1) = ((g + 1 : Nat) : Int) := by rw [IntWalk.i64_in _ (by omega)]; omega
      have hwc : IntKind.i64.wrap ((c : Int) - 1) = ((c - 1 : Nat) : Int) := by rw [IntWalk.i64_in _ (by omega)]; omega
      generalize hzf : ((g + 1 : Nat) : Int) = zf at *
      generalize hzg : ((c - 1 : Nat) : Int) = zg at *
      all_goals
        go_wp2_with (go_at_call 28; refine (CW5.out _ (Below.refl _ _)).mono ?_; rintro e w8 ⟨rfl, hs8, hk8⟩; have HS8 := hidS hs8; have HK8 := hidS hk8; clear hs8 hk8)
        go_roundw
        case rel => exact ⟨_, left5, HR5.out.keep (HK8.out.block O (by omega) (by omega)) (HK8.out.block r (by omega) (by omega)), Seen.congr HS8.out (fun i => ⟨fun h => by
            rcases h with (h | ⟨g', c', h1, h2⟩) | h
            · exact .inl h
            · exact .inr ⟨g', c', .inl h1, h2⟩
            · exact .inr ⟨g, c, .inr rfl, HBC.out, h⟩, fun h => by
            rcases h with h | ⟨g', c', h1 | h1, h2, h3⟩
            · exact .inl (.inl h)
            · exact .inl (.inr ⟨g', c', h1, h2, h3⟩)
            · obtain rfl : g' = g := by omega
              rw [HBC.out] at h2
              cases h2
              exact .inr h3⟩), HK5.out.trans HK8.out⟩
        case measure => rw [(HR5.out.keep (HK8.out.block O (by omega) (by omega)) (HK8.out.block r (by omega) (by omega))).left, HLF.out]; exact hlt5
    intro hdone
    have HDN : Hid (∀ (g c : Nat), BS (g : Int) = some c → D (g : Int)) := fun g c h => hdone g (.int .i64 (c : Int)) (by unfold ofV; rw [h]; rfl)
    clear hdone
    go_wp2_with fail
    first | go_end0 | refine bodyPost_ret (results_none rfl _ _ _) rfl ?_
    exact ⟨rfl, Seen.congr HSN.out (fun i => ⟨fun h => h.elim .inl (fun ⟨g, c, h1, h2⟩ => .inr ⟨g, c, h2⟩), fun h => h.elim .inl (fun ⟨g, c, h2⟩ => .inr ⟨g, c, HDN.out g c h2.1, h2⟩)⟩), (Kept.of_below HB1.out).trans' HKP.out (fun i hi e => e)⟩
end Go.Proofs.YtnfljohddpadhaaDoor
