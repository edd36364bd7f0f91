/-
  CONTRACTS of package axes: what follows, what is ahead.
-/
import Derived.Test.YtnfljohddpadhaaDoorStFar
import Derived.Deep.QuietTactic
import Derived.BigQuiet
import Derived.WalkLawsBesides
import Derived.Outline
import Derived.Deep.RegionHeld3
import Derived.Deep.RegionLaw
import Derived.Laws.EntriesVeiled
set_option linter.unusedVariables false
namespace Go.Proofs.YtnfljohddpadhaaDoor
set_option maxRecDepth 100000
open Go.RowKit Go.WideShapes

set_option maxHeartbeats 6400000 in
theorem following_is (la : Option Addr) (lb lo N lcap : Nat) (E : Nat → Nd) (ca : Option Addr) (K ccap M : Nat) (cb co : Nat) (C : Nat → Nat) (S : Nat → Prop) (w : World) (t : Tr E N) (hcap : K ≤ ccap) (hK : ccap ≤ maxLen) (hw : Wk w la lb lo N lcap E) (hM : lb ≠ M) (hC : CxAt w ca cb co K C) (hcM : cb ≠ M) (hCN : ∀ j, j < K → C j < N) (hasc : ∀ j k, j < k → k < K → C j ≤ C k) (hS : Seen w M S) (hlb : lb < w.heap.size) (hcb : cb < w.heap.size) :
    Calls Tryd.prog 36 #[.agg #[.slice la N lcap, .slice ca K ccap, .map (some M)]] w fun e w' => e = .returned (.tuple #[]) ∧ Seen w' M (fun i => S i ∨ ∃ g c : Nat, (bst (fun a b => decide (((a + zN E a : Nat) : Int) < ((b + zN E b : Nat) : Int))) (fun c => (rtN E c : Int)) C K) (g : Int) = some c ∧ (c + zN E c < i ∧ i ≤ g + zN E g) ∧ (E i).kind ≠ 2) ∧ Kept (fun b => b = M) w w' := by
  have hlt := hS.lt
  obtain ⟨W1, hW1⟩ : ∃ W, W = (w.alloc (.cells #[.slice la N lcap, .slice ca K ccap, .map (some M)] 39)) := ⟨_, rfl⟩
  have hz1 : W1.heap.size = w.heap.size + 1 := by rw [hW1]; simp
  have b1 : Below w.heap.size w W1 := by rw [hW1]; exact (Below.refl _ _).alloc (Nat.le_refl _) _
  have HX1 : Hid (BoxAt W1 w.heap.size la N lcap ca K ccap M) := by rw [hW1]; exact heap_alloc_new _ _
  have HW1 := hidS (hw.below b1)
  have HS1 : Hid (Seen W1 M S) := Seen.keep hS (b1.block M hlt)
  have HT := hidS t
  have q2 := hw.n
  have HB1 := hidS b1
  have CR : Hid (∀ W, Below W1.heap.size W1 W → Calls Tryd.prog 55 #[.agg #[.slice la N lcap, .slice ca K ccap, .map (some M)]] W fun e w' => ∃ v, e = .returned v ∧ ∃ s, v = .func (.func 76) #[] #[.pointer (some ⟨s + 1, 0, none⟩), .pointer (some ⟨s, 0, none⟩)] ∧ W1.heap.size ≤ s ∧ s + 1 < w'.heap.size ∧ w'.heap[s + 1]? = some (.cells #[.int .i64 (-1)] 3) ∧ BoxAt w' s la N lcap ca K ccap M ∧ Below W1.heap.size W1 w') := fun W hW => (roots_is la lb lo N lcap E ca K ccap M W).mono (by
    rintro e w' ⟨rfl, g1, g2, g3, g4⟩
    exact ⟨_, rfl, W.heap.size, rfl, hW.size, by omega, g1, g2, hW.trans (g3.mono hW.size)⟩)
  have CB : Hid (∀ W s, Below W1.heap.size W1 W → W1.heap.size ≤ s → s + 1 < W.heap.size → W.heap[s + 1]? = some (.cells #[.int .i64 (-1)] 3) → BoxAt W s la N lcap ca K ccap M → Calls Tryd.prog 54 #[.agg #[.slice la N lcap, .slice ca K ccap, .map (some M)], .func (.func 76) #[] #[.pointer (some ⟨s + 1, 0, none⟩), .pointer (some ⟨s, 0, none⟩)], .func (.func 53) #[] #[.pointer (some ⟨w.heap.size, 0, none⟩)]] W fun e w' => ∃ v, e = .returned v ∧ ∃ O, v = .map (some O) ∧ W1.heap.size ≤ O ∧ IMap w' O (ofV (bst (fun a b => decide (((a + zN E a : Nat) : Int) < ((b + zN E b : Nat) : Int))) (fun c => (rtN E c : Int)) C K)) ∧ Below W1.heap.size W1 w') := fun W s hW hs hs2 g1 g2 => by
    have e1 := hW.size
    refine (best_roots 53 #[] #[.pointer (some ⟨w.heap.size, 0, none⟩)] (fun a b => decide (((a + zN E a : Nat) : Int) < ((b + zN E b : Nat) : Int))) la lb lo N lcap E ca K ccap M cb co C (s + 1) s (fun W => BoxAt W w.heap.size la N lcap ca K ccap M) W t hcap hK ((hw.below b1).below hW) ((hC.keep (Kept.of_below (X := fun _ => False) b1) (fun h => h)).keep (Kept.of_below (X := fun _ => False) hW) (fun h => h)) hCN hasc g1 g2 (by omega) ?_ ?_ (fun args V => by kernel_rfl) (HX1.out.below hW) ?_ ?_).mono ?_
    · omega
    · omega
    · exact fun V V' hz hV hk => hV.keep hk (fun h => h.elim (by omega) (by omega))
    · exact fun V a b hV hV2 ha hb => ends_is la lb lo N lcap E ca K ccap M w.heap.size a b V t hV2 hV ha hb
    · rintro e w' ⟨rfl, k1, k2⟩
      exact ⟨_, rfl, _, rfl, by omega, k1, hW.trans (k2.below e1 (fun c e => by omega))⟩
  have HBS : Hid (∀ x c, (bst (fun a b => decide (((a + zN E a : Nat) : Int) < ((b + zN E b : Nat) : Int))) (fun c => (rtN E c : Int)) C K) x = some c → ∃ g : Nat, x = g ∧ g < N ∧ c < N) := fun x c hxc => by
    by_cases hx0 : 0 ≤ x
    · rcases bst_is (fun a => ((a + zN E a : Nat) : Int)) (fun a b => decide (((a + zN E a : Nat) : Int) < ((b + zN E b : Nat) : Int))) (fun c => (rtN E c : Int)) C (fun a b => by first | rfl | (show decide _ = decide _; congr 1; exact propext ⟨fun h => by omega, fun h => by omega⟩)) hx0 K with ⟨e, _⟩ | ⟨j, j1, e, e2, _⟩
      · rw [e] at hxc; cases hxc
      · rw [e] at hxc
        cases hxc
        have := (rtN_is t (hCN j j1)).1.1
        have := hCN j j1
        exact ⟨rtN E (C j), e2.symm, by omega, this⟩
    · rw [bst_neg _ _ _ (by omega)] at hxc
      cases hxc
  have CL : Hid (∀ (W : World) (n : Nat), n < N → Wk W la lb lo N lcap E → Calls Tryd.prog 29 #[.agg #[.slice la N lcap, .slice ca K ccap, .map (some M)], .int .i64 (n : Int)] W fun e w' => e = .returned (.int .i64 ((n + zN E n : Nat) : Int)) ∧ Below W.heap.size W w') := fun W n hn hW => last_is la lb lo N lcap E ca K ccap M n W t hW hn
  have CO : Hid (∀ (W : World) (S' : Nat → Prop) (n : Nat), n < N → Wk W la lb lo N lcap E → Seen W M S' → Calls Tryd.prog 30 #[.agg #[.slice la N lcap, .slice ca K ccap, .map (some M)], .int .i64 (n : Int)] W fun e w' => e = .returned (.tuple #[]) ∧ Seen w' M (fun i => S' i ∨ (i = n ∧ (E i).kind ≠ 2)) ∧ Kept (fun b => b = M) W w') := fun W S' n hn hW hs => seeOther_is la lb lo N lcap E ca K ccap M n S' W t hW hn hs
  generalize (bst (fun a b => decide (((a + zN E a : Nat) : Int) < ((b + zN E b : Nat) : Int))) (fun c => (rtN E c : Int)) C K) = BS at *
  clear hw hC hS t hCN hasc b1
  obtain ⟨x0, x1, x2⟩ := HX1.out.cells
  go_enter Tryd.func36, Tryd.ntmps36
  go_upto_region 2 with fail
  rw [← hW1]
  clear hW1
  go_region_law (first
    | (refine step_callS rfl 55 #[.agg #[.slice la N lcap, .slice ca K ccap, .map (some M)]] (by simp [go_sem]) (fun v w' => ∃ s, v = .func (.func 76) #[] #[.pointer (some ⟨s + 1, 0, none⟩), .pointer (some ⟨s, 0, none⟩)] ∧ W1.heap.size ≤ s ∧ s + 1 < w'.heap.size ∧ w'.heap[s + 1]? = some (.cells #[.int .i64 (-1)] 3) ∧ BoxAt w' s la N lcap ca K ccap M ∧ Below W1.heap.size W1 w') (CR.out _ (by repeat (first | exact Hid.out (by assumption) | exact Below.refl _ _ | refine Below.drew ?_))) ?_; rintro v2 w2 ⟨s, rfl, g1, g2, g3, g4, g5⟩; have G1 := hidS g1; have G2 := hidS g2; have G3 := hidS g3; have G4 := hidS g4; have G5 := hidS g5; obtain ⟨y0, y1, y2⟩ := (HX1.out.below g5).cells; clear CR g1 g2 g3 g4 g5)
    | (refine step_callS rfl 54 #[.agg #[.slice la N lcap, .slice ca K ccap, .map (some M)], .func (.func 76) #[] #[.pointer (some ⟨s + 1, 0, none⟩), .pointer (some ⟨s, 0, none⟩)], .func (.func 53) #[] #[.pointer (some ⟨w.heap.size, 0, none⟩)]] (by simp [go_sem]) (fun v w' => ∃ O, v = .map (some O) ∧ W1.heap.size ≤ O ∧ IMap w' O (ofV BS) ∧ Below W1.heap.size W1 w') (CB.out _ s (by repeat (first | exact Hid.out (by assumption) | exact Below.refl _ _ | refine Below.drew ?_)) G1.out G2.out G3.out G4.out) ?_; rintro v3 w3 ⟨O, rfl, f1, f2, f3⟩; have F1 := hidS f1; have F2 := hidS f2; have F3 := hidS f3; obtain ⟨w4, left4, hrun4, hr4, hz4, hk4, ho4, ht4, hp4⟩ := f2.range (t := 63) Tryd.underlying63; have HR4 := hidS hr4; have HB4 : Hid (Below W1.heap.size W1 w4) := (f3.trans ⟨ho4, ht4, hp4, by omega, fun b hb => hk4 b (by have := f3.size; omega)⟩); have hz34 := f3.size; clear CB f1 f2 f3 hr4 hk4 ho4 ht4 hp4))
  all_goals
    have HK4 : Hid (Kept (fun b => b = M) W1 w4) := Kept.of_below HB4.out
    have HS4 : Hid (Seen w4 M S) := Seen.keep HS1.out (HB4.out.block M (by omega))
    have hO := F1.out
    clear F1 F2 F3 G1 G2 G3 G4 G5 hrun4
    generalize hrr : w3.heap.size = r at *
    have hr1 : W1.heap.size ≤ r := hz34
    clear hrr hz34 hz4 x0 x1 x2 y0 y1 y2 HB4 HS1
    go_wp2_with fail
    go_loopw [13] (fun _ wr => ∃ (D : Int → Prop) (left : Nat), IRng wr r O (ofV BS) D left ∧ Seen wr M (fun i => S i ∨ ∃ g c : Nat, D (g : Int) ∧ BS (g : Int) = some c ∧ (c + zN E c < i ∧ i ≤ g + zN E g) ∧ (E i).kind ≠ 2) ∧ Kept (fun b => b = M) W1 wr) (fun _ wr => leftI wr O r)
    case atStart => exact ⟨_, _, HR4.out, Seen.congr HS4.out (fun i => ⟨.inl, fun h => h.elim id (fun ⟨g, c, h, _⟩ => h.elim)⟩), HK4.out⟩
    case round =>
      clear HR4 HS4 HK4
      obtain ⟨D, left, hrg, hsn, hkp⟩ := hrel
      have HR := hidS hrg
      have HSN := hidS hsn
      have HKP := hidS hkp
      obtain ⟨hOl, hrl, hrO⟩ := hrg.lt
      clear hrg hsn hkp
      go_wp2_with (refine wpList_inext rfl (.tmp 12) rfl r O (ofV BS) D left (by simp [Act.eval]) HR.out ?_ ?_)
      rotate_left
      · intro x v w5 left5 hx hnd hen hlt5 hr5 ht5
        obtain ⟨c, hbc, rfl⟩ : ∃ c : Nat, BS x = some c ∧ v = .int .i64 (c : Int) := by
          unfold ofV at hx
          cases hb : BS x with
          | none => rw [hb] at hx; cases hx
          | some c => rw [hb] at hx; cases hx; exact ⟨c, rfl, rfl⟩
        obtain ⟨g, rfl, hgN, hcN⟩ := HBS.out x c hbc
        have HR5 := hidS hr5
        have HS5 : Hid (Seen w5 M _) := Seen.keep HSN.out (ht5.2.1 M (by omega))
        have HK5 : Hid (Kept (fun b => b = M) W1 w5) := HKP.out.trans' (Kept.of_turned (X := fun b => b = r) ht5 rfl) (fun i hi e => by omega)
        have HLF : Hid (leftI wr O r = left) := HR.out.left
        have HBC := hidS hbc
        obtain ⟨z0, z1, z2⟩ := (HX1.out.keep HK5.out (by omega)).cells
        have hgz := (HT.out.sz g hgN).2
        have hcz := (HT.out.sz c hcN).2
        have hz5 : wr.heap.size = w5.heap.size := ht5.1.symm
        clear hx hbc hr5 ht5 HR HSN HKP hnd
        have CL5 := hidS (CL.out w5 c hcN (HW1.out.keep HK5.out hM))
        have hwc : IntKind.i64.wrap (((c + zN E c : Nat) : Int) + 1) = ((c + zN E c + 1 : Nat) : Int) := by rw [IntWalk.i64_in _ (by omega)]; omega
        generalize hzc : ((c + zN E c : Nat) : Int) = zc at CL5 hwc
        go_wp2_with (go_at_call 29; refine CL5.out.mono ?_; rintro e w6 ⟨rfl, hb6⟩; have HS6 := hidS (Seen.keep HS5.out (hb6.block M HS5.out.lt)); have HK6 : Hid (Kept (fun b => b = M) w5 w6) := Kept.of_below hb6; clear hb6 CL5)
        go_loopw [5] (fun v wq => ∃ m : Nat, v = .int .i64 (m : Int) ∧ c + zN E c + 1 ≤ m ∧ m ≤ N ∧ (c + zN E c + 1 < m → m ≤ g + zN E g + 1) ∧ Seen wq M (fun i => (S i ∨ ∃ g c : Nat, D (g : Int) ∧ BS (g : Int) = some c ∧ (c + zN E c < i ∧ i ≤ g + zN E g) ∧ (E i).kind ≠ 2) ∨ ((c + zN E c < i ∧ i < m) ∧ (E i).kind ≠ 2)) ∧ Kept (fun b => b = M) w5 wq) (fun v _ => g + zN E g + 1 - (intOf v).toNat)
        case atStart => exact ⟨c + zN E c + 1, by first | rfl | go_num, Nat.le_refl _, by omega, fun h => by omega, Seen.congr HS6.out (fun i => ⟨.inl, fun h => h.elim id (fun k => by omega)⟩), HK6.out⟩
        case round =>
          obtain ⟨m, rfl, hm1, hmN, hm2, hsn, hkp⟩ := hrel
          have HSQ := hidS hsn
          have HKQ := hidS hkp
          have HKW : Hid (Kept (fun b => b = M) W1 wr) := HK5.out.trans hkp
          obtain ⟨z0', z1', z2'⟩ := (HX1.out.keep HKW.out (by omega)).cells
          have CLq := hidS (CL.out wr g hgN (HW1.out.keep HKW.out hM))
          clear hsn hkp HS6 HK6 z0 z1 z2
          generalize hzg : ((g + zN E g : Nat) : Int) = zg at CLq
          by_cases hmt : m ≤ g + zN E g
          · have hmi : (m : Int) ≤ zg := by omega
            have hmN2 : m < N := by omega
            go_wp2_with (first
              | (go_at_call 29; refine CLq.out.mono ?_; rintro e w7 ⟨rfl, hb7⟩; have HS7 := hidS (Seen.keep HSQ.out (hb7.block M HSQ.out.lt)); have HK7 : Hid (Kept (fun b => b = M) w5 w7) := HKQ.out.trans (Kept.of_below hb7); clear hb7 z0' z1' z2'; obtain ⟨z0', z1', z2'⟩ := (HX1.out.keep (HK5.out.trans HK7.out) (by omega)).cells; clear CLq)
              | (go_at_call 30; refine (CO.out w7 _ m hmN2 (HW1.out.keep (HK5.out.trans HK7.out) hM) HS7.out).mono ?_; rintro e w8 ⟨rfl, hs8, hk8⟩; have HS8 := hidS hs8; have HK8 : Hid (Kept (fun b => b = M) w5 w8) := HK7.out.trans hk8; clear hs8 hk8))
            go_roundw
            case rel => exact ⟨m + 1, by go_num, by omega, by omega, fun _ => by omega, Seen.congr HS8.out (fun i => ⟨fun h => by
                rcases h with (h | h) | h
                · exact .inl h
                · exact .inr ⟨⟨h.1.1, by omega⟩, h.2⟩
                · obtain ⟨rfl, h⟩ := h
                  exact .inr ⟨⟨by omega, by omega⟩, h⟩, fun h => by
                rcases h with h | ⟨⟨h1, h2⟩, h3⟩
                · exact .inl (.inl h)
                · by_cases e : i < m
                  · exact .inl (.inr ⟨⟨h1, e⟩, h3⟩)
                  · exact .inr ⟨by omega, h3⟩⟩), HK8.out⟩
            case measure => simp [intOf] <;> omega
          · have hmi : ¬ (m : Int) ≤ zg := by omega
            go_wp2_with (first
              | (go_at_call 29; refine CLq.out.mono ?_; rintro e w7 ⟨rfl, hb7⟩; have HS7 := hidS (Seen.keep HSQ.out (hb7.block M HSQ.out.lt)); have HK7 : Hid (Kept (fun b => b = M) w5 w7) := HKQ.out.trans (Kept.of_below hb7); clear hb7 CLq))
            go_roundw
            case rel => exact ⟨_, left5, HR5.out.keep (HK7.out.block O (by omega) (by omega)) (HK7.out.block r (by omega) (by omega)), Seen.congr HS7.out (fun i => ⟨fun h => by
                rcases h with (h | ⟨g', c', h1, h2⟩) | h
                · exact .inl h
                · exact .inr ⟨g', c', .inl h1, h2⟩
                · exact .inr ⟨g, c, .inr rfl, HBC.out, ⟨h.1.1, by have := h.1; omega⟩, h.2⟩, fun h => by
                rcases h with h | ⟨g', c', h1 | h1, h2, h3, h4⟩
                · exact .inl (.inl h)
                · exact .inl (.inr ⟨g', c', h1, h2, h3, h4⟩)
                · obtain rfl : g' = g := by omega
                  rw [HBC.out] at h2
                  cases h2
                  exact .inr ⟨⟨h3.1, by omega⟩, h4⟩⟩), HK5.out.trans HK7.out⟩
            case measure => rw [(HR5.out.keep (HK7.out.block O (by omega) (by omega)) (HK7.out.block r (by omega) (by omega))).left, HLF.out]; exact hlt5
      intro hdone
      have HDN : Hid (∀ (g c : Nat), BS (g : Int) = some c → D (g : Int)) := fun g c h => hdone g (.int .i64 (c : Int)) (by unfold ofV; rw [h]; rfl)
      clear hdone
      go_wp2_with fail
      first | go_end0 | refine bodyPost_ret (results_none rfl _ _ _) rfl ?_
      exact ⟨rfl, Seen.congr HSN.out (fun i => ⟨fun h => h.elim .inl (fun ⟨g, c, h1, h2⟩ => .inr ⟨g, c, h2⟩), fun h => h.elim .inl (fun ⟨g, c, h2⟩ => .inr ⟨g, c, HDN.out g c h2.1, h2⟩)⟩), (Kept.of_below HB1.out).trans' HKP.out (fun i hi e => e)⟩
set_option maxHeartbeats 6400000 in
theorem preceding_is (la : Option Addr) (lb lo N lcap : Nat) (E : Nat → Nd) (ca : Option Addr) (K ccap M : Nat) (cb co : Nat) (C : Nat → Nat) (S : Nat → Prop) (w : World) (t : Tr E N) (hcap : K ≤ ccap) (hK : ccap ≤ maxLen) (hw : Wk w la lb lo N lcap E) (hM : lb ≠ M) (hC : CxAt w ca cb co K C) (hcM : cb ≠ M) (hCN : ∀ j, j < K → C j < N) (hasc : ∀ j k, j < k → k < K → C j ≤ C k) (hS : Seen w M S) (hlb : lb < w.heap.size) (hcb : cb < w.heap.size) :
    Calls Tryd.prog 37 #[.agg #[.slice la N lcap, .slice ca K ccap, .map (some M)]] w fun e w' => e = .returned (.tuple #[]) ∧ Seen w' M (fun i => S i ∨ ∃ g c : Nat, (bst (fun a b => decide ((b : Int) < (a : Int))) (fun c => (rtN E c : Int)) C K) (g : Int) = some c ∧ ((g ≤ i ∧ i < c) ∧ i + zN E i < c) ∧ (E i).kind ≠ 2) ∧ Kept (fun b => b = M) w w' := by
  have hlt := hS.lt
  obtain ⟨W1, hW1⟩ : ∃ W, W = (w.alloc (.cells #[.slice la N lcap, .slice ca K ccap, .map (some M)] 39)) := ⟨_, rfl⟩
  have hz1 : W1.heap.size = w.heap.size + 1 := by rw [hW1]; simp
  have b1 : Below w.heap.size w W1 := by rw [hW1]; exact (Below.refl _ _).alloc (Nat.le_refl _) _
  have HX1 : Hid (BoxAt W1 w.heap.size la N lcap ca K ccap M) := by rw [hW1]; exact heap_alloc_new _ _
  have HW1 := hidS (hw.below b1)
  have HS1 : Hid (Seen W1 M S) := Seen.keep hS (b1.block M hlt)
  have HT := hidS t
  have q2 := hw.n
  have HB1 := hidS b1
  have CR : Hid (∀ W, Below W1.heap.size W1 W → Calls Tryd.prog 55 #[.agg #[.slice la N lcap, .slice ca K ccap, .map (some M)]] W fun e w' => ∃ v, e = .returned v ∧ ∃ s, v = .func (.func 76) #[] #[.pointer (some ⟨s + 1, 0, none⟩), .pointer (some ⟨s, 0, none⟩)] ∧ W1.heap.size ≤ s ∧ s + 1 < w'.heap.size ∧ w'.heap[s + 1]? = some (.cells #[.int .i64 (-1)] 3) ∧ BoxAt w' s la N lcap ca K ccap M ∧ Below W1.heap.size W1 w') := fun W hW => (roots_is la lb lo N lcap E ca K ccap M W).mono (by
    rintro e w' ⟨rfl, g1, g2, g3, g4⟩
    exact ⟨_, rfl, W.heap.size, rfl, hW.size, by omega, g1, g2, hW.trans (g3.mono hW.size)⟩)
  have CB : Hid (∀ W s, Below W1.heap.size W1 W → W1.heap.size ≤ s → s + 1 < W.heap.size → W.heap[s + 1]? = some (.cells #[.int .i64 (-1)] 3) → BoxAt W s la N lcap ca K ccap M → Calls Tryd.prog 54 #[.agg #[.slice la N lcap, .slice ca K ccap, .map (some M)], .func (.func 76) #[] #[.pointer (some ⟨s + 1, 0, none⟩), .pointer (some ⟨s, 0, none⟩)], .func (.func 56) #[] #[]] W fun e w' => ∃ v, e = .returned v ∧ ∃ O, v = .map (some O) ∧ W1.heap.size ≤ O ∧ IMap w' O (ofV (bst (fun a b => decide ((b : Int) < (a : Int))) (fun c => (rtN E c : Int)) C K)) ∧ Below W1.heap.size W1 w') := fun W s hW hs hs2 g1 g2 => by
    have e1 := hW.size
    refine (best_roots 56 #[] #[] (fun a b => decide ((b : Int) < (a : Int))) la lb lo N lcap E ca K ccap M cb co C (s + 1) s (fun W => True) W t hcap hK ((hw.below b1).below hW) ((hC.keep (Kept.of_below (X := fun _ => False) b1) (fun h => h)).keep (Kept.of_below (X := fun _ => False) hW) (fun h => h)) hCN hasc g1 g2 (by omega) ?_ ?_ (fun args V => by kernel_rfl) trivial ?_ ?_).mono ?_
    · omega
    · omega
    · exact fun _ _ _ _ _ => trivial
    · exact fun V a b _ _ _ _ => (beginsLast_is a b V).mono (by rintro e w' ⟨rfl, rfl⟩; exact ⟨rfl, Below.refl _ _⟩)
    · rintro e w' ⟨rfl, k1, k2⟩
      exact ⟨_, rfl, _, rfl, by omega, k1, hW.trans (k2.below e1 (fun c e => by omega))⟩
  have HBS : Hid (∀ x c, (bst (fun a b => decide ((b : Int) < (a : Int))) (fun c => (rtN E c : Int)) C K) x = some c → ∃ g : Nat, x = g ∧ g < N ∧ c < N) := fun x c hxc => by
    by_cases hx0 : 0 ≤ x
    · rcases bst_is (fun a => -(a : Int)) (fun a b => decide ((b : Int) < (a : Int))) (fun c => (rtN E c : Int)) C (fun a b => by first | rfl | (show decide _ = decide _; congr 1; exact propext ⟨fun h => by omega, fun h => by omega⟩)) hx0 K with ⟨e, _⟩ | ⟨j, j1, e, e2, _⟩
      · rw [e] at hxc; cases hxc
      · rw [e] at hxc
        cases hxc
        have := (rtN_is t (hCN j j1)).1.1
        have := hCN j j1
        exact ⟨rtN E (C j), e2.symm, by omega, this⟩
    · rw [bst_neg _ _ _ (by omega)] at hxc
      cases hxc
  have CL : Hid (∀ (W : World) (n : Nat), n < N → Wk W la lb lo N lcap E → Calls Tryd.prog 29 #[.agg #[.slice la N lcap, .slice ca K ccap, .map (some M)], .int .i64 (n : Int)] W fun e w' => e = .returned (.int .i64 ((n + zN E n : Nat) : Int)) ∧ Below W.heap.size W w') := fun W n hn hW => last_is la lb lo N lcap E ca K ccap M n W t hW hn
  have CO : Hid (∀ (W : World) (S' : Nat → Prop) (n : Nat), n < N → Wk W la lb lo N lcap E → Seen W M S' → Calls Tryd.prog 30 #[.agg #[.slice la N lcap, .slice ca K ccap, .map (some M)], .int .i64 (n : Int)] W fun e w' => e = .returned (.tuple #[]) ∧ Seen w' M (fun i => S' i ∨ (i = n ∧ (E i).kind ≠ 2)) ∧ Kept (fun b => b = M) W w') := fun W S' n hn hW hs => seeOther_is la lb lo N lcap E ca K ccap M n S' W t hW hn hs
  generalize (bst (fun a b => decide ((b : Int) < (a : Int))) (fun c => (rtN E c : Int)) C K) = BS at *
  clear hw hC hS t hCN hasc b1
  obtain ⟨x0, x1, x2⟩ := HX1.out.cells
  go_enter Tryd.func37, Tryd.ntmps37
  go_upto_region 1 with fail
  rw [← hW1]
  clear hW1
  go_region_law (first
    | (refine step_callS rfl 55 #[.agg #[.slice la N lcap, .slice ca K ccap, .map (some M)]] (by simp [go_sem]) (fun v w' => ∃ s, v = .func (.func 76) #[] #[.pointer (some ⟨s + 1, 0, none⟩), .pointer (some ⟨s, 0, none⟩)] ∧ W1.heap.size ≤ s ∧ s + 1 < w'.heap.size ∧ w'.heap[s + 1]? = some (.cells #[.int .i64 (-1)] 3) ∧ BoxAt w' s la N lcap ca K ccap M ∧ Below W1.heap.size W1 w') (CR.out _ (by repeat (first | exact Hid.out (by assumption) | exact Below.refl _ _ | refine Below.drew ?_))) ?_; rintro v2 w2 ⟨s, rfl, g1, g2, g3, g4, g5⟩; have G1 := hidS g1; have G2 := hidS g2; have G3 := hidS g3; have G4 := hidS g4; have G5 := hidS g5; obtain ⟨y0, y1, y2⟩ := (HX1.out.below g5).cells; clear CR g1 g2 g3 g4 g5)
    | (refine step_callS rfl 54 #[.agg #[.slice la N lcap, .slice ca K ccap, .map (some M)], .func (.func 76) #[] #[.pointer (some ⟨s + 1, 0, none⟩), .pointer (some ⟨s, 0, none⟩)], .func (.func 56) #[] #[]] (by simp [go_sem]) (fun v w' => ∃ O, v = .map (some O) ∧ W1.heap.size ≤ O ∧ IMap w' O (ofV BS) ∧ Below W1.heap.size W1 w') (CB.out _ s (by repeat (first | exact Hid.out (by assumption) | exact Below.refl _ _ | refine Below.drew ?_)) G1.out G2.out G3.out G4.out) ?_; rintro v3 w3 ⟨O, rfl, f1, f2, f3⟩; have F1 := hidS f1; have F2 := hidS f2; have F3 := hidS f3; obtain ⟨w4, left4, hrun4, hr4, hz4, hk4, ho4, ht4, hp4⟩ := f2.range (t := 63) Tryd.underlying63; have HR4 := hidS hr4; have HB4 : Hid (Below W1.heap.size W1 w4) := (f3.trans ⟨ho4, ht4, hp4, by omega, fun b hb => hk4 b (by have := f3.size; omega)⟩); have hz34 := f3.size; clear CB f1 f2 f3 hr4 hk4 ho4 ht4 hp4))
  all_goals
    have HK4 : Hid (Kept (fun b => b = M) W1 w4) := Kept.of_below HB4.out
    have HS4 : Hid (Seen w4 M S) := Seen.keep HS1.out (HB4.out.block M (by omega))
    have hO := F1.out
    clear F1 F2 F3 G1 G2 G3 G4 G5 hrun4
    generalize hrr : w3.heap.size = r at *
    have hr1 : W1.heap.size ≤ r := hz34
    clear hrr hz34 hz4 x0 x1 x2 y0 y1 y2 HB4 HS1
    go_wp2_with fail
    go_loopw [10] (fun _ wr => ∃ (D : Int → Prop) (left : Nat), IRng wr r O (ofV BS) D left ∧ Seen wr M (fun i => S i ∨ ∃ g c : Nat, D (g : Int) ∧ BS (g : Int) = some c ∧ ((g ≤ i ∧ i < c) ∧ i + zN E i < c) ∧ (E i).kind ≠ 2) ∧ Kept (fun b => b = M) W1 wr) (fun _ wr => leftI wr O r)
    case atStart => exact ⟨_, _, HR4.out, Seen.congr HS4.out (fun i => ⟨.inl, fun h => h.elim id (fun ⟨g, c, h, _⟩ => h.elim)⟩), HK4.out⟩
    case round =>
      clear HR4 HS4 HK4
      obtain ⟨D, left, hrg, hsn, hkp⟩ := hrel
      have HR := hidS hrg
      have HSN := hidS hsn
      have HKP := hidS hkp
      obtain ⟨hOl, hrl, hrO⟩ := hrg.lt
      clear hrg hsn hkp
      go_wp2_with (refine wpList_inext rfl (.tmp 9) rfl r O (ofV BS) D left (by simp [Act.eval]) HR.out ?_ ?_)
      rotate_left
      · intro x v w5 left5 hx hnd hen hlt5 hr5 ht5
        obtain ⟨c, hbc, rfl⟩ : ∃ c : Nat, BS x = some c ∧ v = .int .i64 (c : Int) := by
          unfold ofV at hx
          cases hb : BS x with
          | none => rw [hb] at hx; cases hx
          | some c => rw [hb] at hx; cases hx; exact ⟨c, rfl, rfl⟩
        obtain ⟨g, rfl, hgN, hcN⟩ := HBS.out x c hbc
        have HR5 := hidS hr5
        have HS5 : Hid (Seen w5 M _) := Seen.keep HSN.out (ht5.2.1 M (by omega))
        have HK5 : Hid (Kept (fun b => b = M) W1 w5) := HKP.out.trans' (Kept.of_turned (X := fun b => b = r) ht5 rfl) (fun i hi e => by omega)
        have HLF : Hid (leftI wr O r = left) := HR.out.left
        have HBC := hidS hbc
        obtain ⟨z0, z1, z2⟩ := (HX1.out.keep HK5.out (by omega)).cells
        have hgz := (HT.out.sz g hgN).2
        have hcz := (HT.out.sz c hcN).2
        have hz5 : wr.heap.size = w5.heap.size := ht5.1.symm
        clear hx hbc hr5 ht5 HR HSN HKP hnd
        go_wp2_with fail
        go_loopw [4] (fun v wq => ∃ m : Nat, v = .int .i64 (m : Int) ∧ g ≤ m ∧ m ≤ N ∧ (g < m → m ≤ c) ∧ Seen wq M (fun i => (S i ∨ ∃ g c : Nat, D (g : Int) ∧ BS (g : Int) = some c ∧ ((g ≤ i ∧ i < c) ∧ i + zN E i < c) ∧ (E i).kind ≠ 2) ∨ (((g ≤ i ∧ i < m) ∧ i + zN E i < c) ∧ (E i).kind ≠ 2)) ∧ Kept (fun b => b = M) w5 wq) (fun v _ => c + 1 - (intOf v).toNat)
        case atStart => exact ⟨g, rfl, Nat.le_refl _, by omega, fun h => by omega, Seen.congr HS5.out (fun i => ⟨.inl, fun h => h.elim id (fun k => by omega)⟩), Kept.refl _ _⟩
        case round =>
          obtain ⟨m, rfl, hm1, hmN, hm2, hsn, hkp⟩ := hrel
          have HSQ := hidS hsn
          have HKQ := hidS hkp
          have HKW : Hid (Kept (fun b => b = M) W1 wr) := HK5.out.trans hkp
          obtain ⟨z0', z1', z2'⟩ := (HX1.out.keep HKW.out (by omega)).cells
          clear hsn hkp z0 z1 z2
          by_cases hmt : m < c
          · have hmi : (m : Int) < (c : Int) := by omega
            have hmN2 : m < N := by omega
            have CLq := hidS (CL.out wr m hmN2 (HW1.out.keep HKW.out hM))
            generalize hzg : ((m + zN E m : Nat) : Int) = zg at CLq
            by_cases hlc : m + zN E m < c
            · have hli : zg < (c : Int) := by omega
              go_wp2_with (first
                | (go_at_call 29; refine CLq.out.mono ?_; rintro e w7 ⟨rfl, hb7⟩; have HS7 := hidS (Seen.keep HSQ.out (hb7.block M HSQ.out.lt)); have HK7 : Hid (Kept (fun b => b = M) w5 w7) := HKQ.out.trans (Kept.of_below hb7); clear hb7 z0' z1' z2'; obtain ⟨z0', z1', z2'⟩ := (HX1.out.keep (HK5.out.trans HK7.out) (by omega)).cells; clear CLq)
                | (go_at_call 30; refine (CO.out w7 _ m hmN2 (HW1.out.keep (HK5.out.trans HK7.out) hM) HS7.out).mono ?_; rintro e w8 ⟨rfl, hs8, hk8⟩; have HS8 := hidS hs8; have HK8 : Hid (Kept (fun b => b = M) w5 w8) := HK7.out.trans hk8; clear hs8 hk8))
              go_roundw
              case rel => exact ⟨m + 1, by go_num, by omega, by omega, fun _ => by omega, Seen.congr HS8.out (fun i => ⟨fun h => by
                  rcases h with (h | h) | h
                  · exact .inl h
                  · exact .inr ⟨⟨⟨h.1.1.1, by omega⟩, h.1.2⟩, h.2⟩
                  · obtain ⟨rfl, h⟩ := h
                    exact .inr ⟨⟨⟨by omega, by omega⟩, hlc⟩, h⟩, fun h => by
                  rcases h with h | ⟨⟨⟨h1, h2⟩, h5⟩, h3⟩
                  · exact .inl (.inl h)
                  · by_cases e : i < m
                    · exact .inl (.inr ⟨⟨⟨h1, e⟩, h5⟩, h3⟩)
                    · exact .inr ⟨by omega, h3⟩⟩), HK8.out⟩
              case measure => simp [intOf] <;> omega
            · have hli : ¬ zg < (c : Int) := by omega
              go_wp2_with (first
                | (go_at_call 29; refine CLq.out.mono ?_; rintro e w7 ⟨rfl, hb7⟩; have HS7 := hidS (Seen.keep HSQ.out (hb7.block M HSQ.out.lt)); have HK7 : Hid (Kept (fun b => b = M) w5 w7) := HKQ.out.trans (Kept.of_below hb7); clear hb7 CLq))
              go_roundw
              case rel => exact ⟨m + 1, by go_num, by omega, by omega, fun _ => by omega, Seen.congr HS7.out (fun i => ⟨fun h => by
                  rcases h with h | h
                  · exact .inl h
                  · exact .inr ⟨⟨⟨h.1.1.1, by omega⟩, h.1.2⟩, h.2⟩, fun h => by
                  rcases h with h | ⟨⟨⟨h1, h2⟩, h5⟩, h3⟩
                  · exact .inl h
                  · by_cases e : i < m
                    · exact .inr ⟨⟨⟨h1, e⟩, h5⟩, h3⟩
                    · obtain rfl : i = m := by omega
                      exact absurd h5 hlc⟩), HK7.out⟩
              case measure => simp [intOf] <;> omega
          · have hmi : ¬ (m : Int) < (c : Int) := by omega
            go_wp2_with fail
            go_roundw
            case rel => exact ⟨_, left5, HR5.out.keep (HKQ.out.block O (by omega) (by omega)) (HKQ.out.block r (by omega) (by omega)), Seen.congr HSQ.out (fun i => ⟨fun h => by
                rcases h with (h | ⟨g', c', h1, h2⟩) | h
                · exact .inl h
                · exact .inr ⟨g', c', .inl h1, h2⟩
                · exact .inr ⟨g, c, .inr rfl, HBC.out, ⟨⟨h.1.1.1, by have := h.1; omega⟩, h.1.2⟩, h.2⟩, fun h => by
                rcases h with h | ⟨g', c', h1 | h1, h2, h3, h4⟩
                · exact .inl (.inl h)
                · exact .inl (.inr ⟨g', c', h1, h2, h3, h4⟩)
                · obtain rfl : g' = g := by omega
                  rw [HBC.out] at h2
                  cases h2
                  exact .inr ⟨⟨⟨h3.1.1, by omega⟩, h3.2⟩, h4⟩⟩), HKW.out⟩
            case measure => rw [(HR5.out.keep (HKQ.out.block O (by omega) (by omega)) (HKQ.out.block r (by omega) (by omega))).left, HLF.out]; exact hlt5
      intro hdone
      have HDN : Hid (∀ (g c : Nat), BS (g : Int) = some c → D (g : Int)) := fun g c h => hdone g (.int .i64 (c : Int)) (by unfold ofV; rw [h]; rfl)
      clear hdone
      go_wp2_with fail
      first | go_end0 | refine bodyPost_ret (results_none rfl _ _ _) rfl ?_
      exact ⟨rfl, Seen.congr HSN.out (fun i => ⟨fun h => h.elim .inl (fun ⟨g, c, h1, h2⟩ => .inr ⟨g, c, h2⟩), fun h => h.elim .inl (fun ⟨g, c, h2⟩ => .inr ⟨g, c, HDN.out g c h2.1, h2⟩)⟩), (Kept.of_below HB1.out).trans' HKP.out (fun i hi e => e)⟩
end Go.Proofs.YtnfljohddpadhaaDoor
