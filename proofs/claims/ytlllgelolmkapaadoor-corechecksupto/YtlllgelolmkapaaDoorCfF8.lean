/-
  CONTRACT: what the document refuses of an expression (exprFault): a Call.
-/
import Derived.Test.YtlllgelolmkapaaDoorCfFb
import Derived.Deep.Cut
import Derived.Deep.QuietTactic
import Derived.BigQuiet
import Derived.Deep.RegionLaw
set_option linter.unusedVariables false
namespace Go.Proofs.YtlllgelolmkapaaDoor
set_option maxRecDepth 100000
open Go.RowKit Go.WideShapes

set_option maxHeartbeats 6400000 in
theorem fault_8n (B : Nat) (S : List ByteArray) (it : It) (nm a : ByteArray) (n ax tk : Int) (tn : ByteArray) (m : Nat) (A : Nat → Ex) (ih : ∀ i, FaultOk B (A i)) (hcnt : cntF 8 m = 0) (hq : argsN nm < 0) : FaultAt B S (.mk 8 it nm a n ax tk tn m A) := by
  intro w v sv hv hsv hB hT hN
  obtain ⟨sl, cap, rfl, s1, s2, s3, hmc, hcm, hsl⟩ := hv
  have HSC0 : Hid (ScIs w sv S) := hsv
  obtain ⟨sa, sc, rfl, hscm⟩ := cells_scope hsv
  have HSL : Hid (0 < m → ∃ b' off', sl = some ⟨b', off', none⟩ ∧ b' < B ∧ ∀ i, i < m → (A i).At w B b' (off' + i * 11)) := hsl
  have HIH : Hid (∀ i, FaultOk B (A i)) := ih
  have HT : Hid (TB B w) := hT
  rw [nodes_is] at hN
  have HNS : Hid (∀ j, j < m → S.length + 2 * nodesX (A j) ≤ 4294967296) := fun j hj => by have := nodes_part (A := A) hj; omega
  have hmm : m ≤ 4294967296 := by have := nodes_len m A; omega
  have hSl : S.length ≤ 4294967296 := by omega
  have HEXF : Hid (exF (.mk 8 it nm a n ax tk tn m A) S = upE (aloneF S 8 it nm a n ax tk m) (fun i => exF (A i) (if i = 0 then S else innS S 8 nm a)) m) := exF_up S 8 it nm a n ax tk tn m A
  have HF : Hid (∀ j, (fun i => exF (A i) (if i = 0 then S else innS S 8 nm a)) j = exF (A j) (if j = 0 then S else innS S 8 nm a)) := fun j => rfl
  have HNI : Hid (∀ j, j ≠ 0 → j < m → (innS S 8 nm a).length + 2 * nodesX (A j) ≤ 4294967296) := fun j _ hj => by
    have h1 := nodes_part (A := A) hj
    have h2 : (innS S 8 nm a).length ≤ S.length + 2 := by unfold innS addN; split <;> (try split) <;> simp <;> omega
    omega
  generalize (fun i => exF (A i) (if i = 0 then S else innS S 8 nm a)) = f at *
  have HAL : Hid (aloneF S 8 it nm a n ax tk m = kindF S 8 it nm a n ax tk m) := if_pos hcnt
  unfold maxLen at hcm hscm
  have HBOX : Hid (∀ W, Below (w.heap.size + 1) (w.alloc (.cells #[.int .i64 8, .int .i64 it.kind, .int .i64 it.n, .string it.s, .string nm, .string a, .int .i64 n, .int .i64 ax, .int .i64 tk, .string tn, .slice sl m cap] 28)) W → HeadAt W w.heap.size 0 8 it nm a n ax tk tn (.slice sl m cap)) := fun W hW => (head_box w 8 it nm a n ax tk tn _ s1 s2 s3 _).keep (hW.block _ (by omega))
  have HB0 : Hid (Below w.heap.size w (w.alloc (.cells #[.int .i64 8, .int .i64 it.kind, .int .i64 it.n, .string it.s, .string nm, .string a, .int .i64 n, .int .i64 ax, .int .i64 tk, .string tn, .slice sl m cap] 28))) := (Below.refl _ _).alloc (Nat.le_refl _) _
  have hz0 : (w.alloc (.cells #[.int .i64 8, .int .i64 it.kind, .int .i64 it.n, .string it.s, .string nm, .string a, .int .i64 n, .int .i64 ax, .int .i64 tk, .string tn, .slice sl m cap] 28)).heap.size = w.heap.size + 1 := by simp
  have CIN : Hid (∀ W, Calls Tryd.prog 21 #[.int .i64 8, .int .i64 1, .int .i64 11] W fun e w' => e = .returned (.bool true) ∧ w' = W) := fun W => in_any 8 1 11 W
  have CAC : Hid (∀ W, Calls Tryd.prog 22 #[.int .i64 8] W fun e w' => e = .returned (.int .i64 (-1)) ∧ w' = W) := fun W => argCount_8 W
  have HIE : Hid (innS S 8 nm a = S) := rfl
  rw [HIE.out] at HF HNI
  have HEXF2 : Hid (exF (.mk 8 it nm a n ax tk tn m A) S = upE 6 f m) := by rw [HEXF.out, HAL.out]; show upE (if argsN nm < 0 then 6 else if argsN nm = m then 0 else 11) f m = _; rw [if_pos hq]
  clear HEXF HAL
  have HEXF := HEXF2
  clear HEXF2
  have hq1 : argsN nm < 0 := hq
  have CH : Hid (∀ W, Calls Tryd.prog 26 #[.string nm] W fun e w' => e = .returned (.int .i64 (argsN nm)) ∧ w' = W) := fun W => argsOf_is nm W
  clear hq
  generalize argsN nm = q at *
  clear hsl ih hN hsv hT
  go_enter Tryd.func8, Tryd.ntmps8
  go_upto_region 1 with fail
  obtain ⟨W0, hW0⟩ : ∃ W, W = w.alloc (.cells #[.int .i64 8, .int .i64 it.kind, .int .i64 it.n, .string it.s, .string nm, .string a, .int .i64 n, .int .i64 ax, .int .i64 tk, .string tn, .slice sl m cap] 28) := ⟨_, rfl⟩
  rw [← hW0] at HBOX HB0 hz0 ⊢
  clear hW0
  have HZ0 : Hid (W0.heap.size = w.heap.size + 1) := hz0
  have hlt0 : w.heap.size < W0.heap.size := by omega
  have HSCW : Hid (ScIs W0 (.slice sa S.length sc) S) := HSC0.out.below HB0.out
  clear hz0 HSC0
  obtain ⟨d0, d1, d2, d3, d4, d5, d6, d7, d8, d9, d10, _, _, _⟩ := HBOX.out W0 (Below.refl _ _)
  go_upto_region 3 with (go_at_call 21; refine (CIN.out _).mono ?_; rintro e w' ⟨rfl, hww⟩; obtain rfl := hww.symm)
  have HB00 : Hid (Below (w.heap.size + 1) W0 W0) := Below.refl _ _
  have hz_W0 := hlt0
  go_quiet ((go_at_call 22; exact Calls.quiet_of_same (CAC.out _)))
  obtain ⟨V, hV⟩ : ∃ W, W = W0.drewN nq := ⟨_, rfl⟩
  have hVc : ∀ x, V.cell? x = W0.cell? x := fun x => by rw [hV]; rfl
  have hVh : V.heap = W0.heap := by rw [hV]; rfl
  rw [← hVc] at d0 d1 d2 d3 d4 d5 d6 d7 d8 d9 d10
  rw [← hV]
  have hz_V : w.heap.size < V.heap.size := by rw [hVh]; exact hz_W0
  have HBV : Hid (Below (w.heap.size + 1) W0 V) := by rw [hV]; exact HB00.out.trans ⟨rfl, rfl, rfl, Nat.le_refl _, fun _ _ => rfl⟩
  have HSV : Hid (ScIs V (.slice sa S.length sc) S) := by rw [hV]; exact HSCW.out
  clear hV hVc hVh HSCW
  go_wp2_with (go_at_call 26; refine (CH.out _).mono ?_; rintro e w' ⟨rfl, hww⟩; obtain rfl := hww.symm)
  clear d0 d1 d2 d3 d4 d5 d6 d7 d8 d9 d10
  obtain ⟨W1, hW1⟩ : ∃ W, W = V := ⟨_, rfl⟩
  rw [← hW1] at HBV HSV ⊢
  have HB1 : Hid (Below (w.heap.size + 1) W0 W1) := HBV
  have HSC : Hid (ScIs W1 (.slice sa S.length sc) S) := HSV
  clear hW1 HBV HSV
  have HIN : Hid (ScIs W1 (.slice sa S.length sc) S) := HSC.out
  have hz1 : w.heap.size < W1.heap.size := by have := HB1.out.size; omega
  have hbw1 : W0.heap.size ≤ W1.heap.size := HB1.out.size
  go_loopw [6, 8] (fun c i wr => ∃ j : Nat, j ≤ m ∧ i = .int .i64 j ∧ c = .int .i64 (upE 6 f j) ∧ Below W1.heap.size W1 wr) (fun c i _ => m - (intOf i).toNat)
  case atStart => exact ⟨0, Nat.zero_le _, rfl, by rw [upE_zero], Below.refl _ _⟩
  case round =>
    obtain ⟨j, hj, rfl, rfl, hbr⟩ := hrel
    have HBR : Hid (Below W1.heap.size W1 wr) := hbr
    have HB2 : Hid (Below (w.heap.size + 1) W0 wr) := HB1.out.trans (hbr.mono (by omega))
    have d10 := (HBOX.out wr HB2.out).c10
    have hltr : w.heap.size < wr.heap.size := by have := hbr.size; omega
    clear hbr
    by_cases hlt : j < m
    · have hji : (j : Int) < (m : Int) := by omega
      by_cases hE : upE 6 f j = 0
      · exact absurd hE (by unfold upE; rw [if_neg (by decide)]; decide)
      · have HEND : Hid (upE 6 f m = upE 6 f j) := upE_end (by omega) hE
        have hE1 : (upE 6 f j == 0) = false := by simpa using hE
        have HBW : Hid (Below w.heap.size w wr) := HB0.out.trans (HB2.out.mono (by omega))
        clear hE
        generalize upE 6 f j = c1 at *
        go_wp2
        go_ret
        exact ⟨ret_int (by rw [HEXF.out, HEND.out]), HBW.out⟩
    · have e : j = m := by omega
      subst e
      have HBW : Hid (Below w.heap.size w wr) := HB0.out.trans (HB2.out.mono (by omega))
      go_wp2
      go_ret
      exact ⟨ret_int (by rw [HEXF.out]), HBW.out⟩
set_option maxHeartbeats 6400000 in
theorem fault_8b (B : Nat) (S : List ByteArray) (it : It) (nm a : ByteArray) (n ax tk : Int) (tn : ByteArray) (m : Nat) (A : Nat → Ex) (ih : ∀ i, FaultOk B (A i)) (hcnt : cntF 8 m = 0) (hq : ¬ argsN nm < 0 ∧ ¬ argsN nm = m) : FaultAt B S (.mk 8 it nm a n ax tk tn m A) := by
  intro w v sv hv hsv hB hT hN
  obtain ⟨sl, cap, rfl, s1, s2, s3, hmc, hcm, hsl⟩ := hv
  have HSC0 : Hid (ScIs w sv S) := hsv
  obtain ⟨sa, sc, rfl, hscm⟩ := cells_scope hsv
  have HSL : Hid (0 < m → ∃ b' off', sl = some ⟨b', off', none⟩ ∧ b' < B ∧ ∀ i, i < m → (A i).At w B b' (off' + i * 11)) := hsl
  have HIH : Hid (∀ i, FaultOk B (A i)) := ih
  have HT : Hid (TB B w) := hT
  rw [nodes_is] at hN
  have HNS : Hid (∀ j, j < m → S.length + 2 * nodesX (A j) ≤ 4294967296) := fun j hj => by have := nodes_part (A := A) hj; omega
  have hmm : m ≤ 4294967296 := by have := nodes_len m A; omega
  have hSl : S.length ≤ 4294967296 := by omega
  have HEXF : Hid (exF (.mk 8 it nm a n ax tk tn m A) S = upE (aloneF S 8 it nm a n ax tk m) (fun i => exF (A i) (if i = 0 then S else innS S 8 nm a)) m) := exF_up S 8 it nm a n ax tk tn m A
  have HF : Hid (∀ j, (fun i => exF (A i) (if i = 0 then S else innS S 8 nm a)) j = exF (A j) (if j = 0 then S else innS S 8 nm a)) := fun j => rfl
  have HNI : Hid (∀ j, j ≠ 0 → j < m → (innS S 8 nm a).length + 2 * nodesX (A j) ≤ 4294967296) := fun j _ hj => by
    have h1 := nodes_part (A := A) hj
    have h2 : (innS S 8 nm a).length ≤ S.length + 2 := by unfold innS addN; split <;> (try split) <;> simp <;> omega
    omega
  generalize (fun i => exF (A i) (if i = 0 then S else innS S 8 nm a)) = f at *
  have HAL : Hid (aloneF S 8 it nm a n ax tk m = kindF S 8 it nm a n ax tk m) := if_pos hcnt
  unfold maxLen at hcm hscm
  have HBOX : Hid (∀ W, Below (w.heap.size + 1) (w.alloc (.cells #[.int .i64 8, .int .i64 it.kind, .int .i64 it.n, .string it.s, .string nm, .string a, .int .i64 n, .int .i64 ax, .int .i64 tk, .string tn, .slice sl m cap] 28)) W → HeadAt W w.heap.size 0 8 it nm a n ax tk tn (.slice sl m cap)) := fun W hW => (head_box w 8 it nm a n ax tk tn _ s1 s2 s3 _).keep (hW.block _ (by omega))
  have HB0 : Hid (Below w.heap.size w (w.alloc (.cells #[.int .i64 8, .int .i64 it.kind, .int .i64 it.n, .string it.s, .string nm, .string a, .int .i64 n, .int .i64 ax, .int .i64 tk, .string tn, .slice sl m cap] 28))) := (Below.refl _ _).alloc (Nat.le_refl _) _
  have hz0 : (w.alloc (.cells #[.int .i64 8, .int .i64 it.kind, .int .i64 it.n, .string it.s, .string nm, .string a, .int .i64 n, .int .i64 ax, .int .i64 tk, .string tn, .slice sl m cap] 28)).heap.size = w.heap.size + 1 := by simp
  have CIN : Hid (∀ W, Calls Tryd.prog 21 #[.int .i64 8, .int .i64 1, .int .i64 11] W fun e w' => e = .returned (.bool true) ∧ w' = W) := fun W => in_any 8 1 11 W
  have CAC : Hid (∀ W, Calls Tryd.prog 22 #[.int .i64 8] W fun e w' => e = .returned (.int .i64 (-1)) ∧ w' = W) := fun W => argCount_8 W
  have HIE : Hid (innS S 8 nm a = S) := rfl
  rw [HIE.out] at HF HNI
  have HEXF2 : Hid (exF (.mk 8 it nm a n ax tk tn m A) S = upE 11 f m) := by rw [HEXF.out, HAL.out]; show upE (if argsN nm < 0 then 6 else if argsN nm = m then 0 else 11) f m = _; rw [if_neg hq.1, if_neg hq.2]
  clear HEXF HAL
  have HEXF := HEXF2
  clear HEXF2
  have hq1 : ¬ argsN nm < 0 := hq.1
  have hq2 : (argsN nm == (m : Int)) = false := by simpa using hq.2
  have CH : Hid (∀ W, Calls Tryd.prog 26 #[.string nm] W fun e w' => e = .returned (.int .i64 (argsN nm)) ∧ w' = W) := fun W => argsOf_is nm W
  clear hq
  generalize argsN nm = q at *
  clear hsl ih hN hsv hT
  go_enter Tryd.func8, Tryd.ntmps8
  go_upto_region 1 with fail
  obtain ⟨W0, hW0⟩ : ∃ W, W = w.alloc (.cells #[.int .i64 8, .int .i64 it.kind, .int .i64 it.n, .string it.s, .string nm, .string a, .int .i64 n, .int .i64 ax, .int .i64 tk, .string tn, .slice sl m cap] 28) := ⟨_, rfl⟩
  rw [← hW0] at HBOX HB0 hz0 ⊢
  clear hW0
  have HZ0 : Hid (W0.heap.size = w.heap.size + 1) := hz0
  have hlt0 : w.heap.size < W0.heap.size := by omega
  have HSCW : Hid (ScIs W0 (.slice sa S.length sc) S) := HSC0.out.below HB0.out
  clear hz0 HSC0
  obtain ⟨d0, d1, d2, d3, d4, d5, d6, d7, d8, d9, d10, _, _, _⟩ := HBOX.out W0 (Below.refl _ _)
  go_upto_region 3 with (go_at_call 21; refine (CIN.out _).mono ?_; rintro e w' ⟨rfl, hww⟩; obtain rfl := hww.symm)
  have HB00 : Hid (Below (w.heap.size + 1) W0 W0) := Below.refl _ _
  have hz_W0 := hlt0
  go_quiet ((go_at_call 22; exact Calls.quiet_of_same (CAC.out _)))
  obtain ⟨V, hV⟩ : ∃ W, W = W0.drewN nq := ⟨_, rfl⟩
  have hVc : ∀ x, V.cell? x = W0.cell? x := fun x => by rw [hV]; rfl
  have hVh : V.heap = W0.heap := by rw [hV]; rfl
  rw [← hVc] at d0 d1 d2 d3 d4 d5 d6 d7 d8 d9 d10
  rw [← hV]
  have hz_V : w.heap.size < V.heap.size := by rw [hVh]; exact hz_W0
  have HBV : Hid (Below (w.heap.size + 1) W0 V) := by rw [hV]; exact HB00.out.trans ⟨rfl, rfl, rfl, Nat.le_refl _, fun _ _ => rfl⟩
  have HSV : Hid (ScIs V (.slice sa S.length sc) S) := by rw [hV]; exact HSCW.out
  clear hV hVc hVh HSCW
  go_upto_region 15 with (go_at_call 26; refine (CH.out _).mono ?_; rintro e w' ⟨rfl, hww⟩; obtain rfl := hww.symm)
  go_quiet ((go_at_call 26; exact Calls.quiet_of_same (CH.out _)))
  obtain ⟨W1, hV⟩ : ∃ W, W = V.drewN nq := ⟨_, rfl⟩
  have hVc : ∀ x, W1.cell? x = V.cell? x := fun x => by rw [hV]; rfl
  have hVh : W1.heap = V.heap := by rw [hV]; rfl
  rw [← hVc] at d0 d1 d2 d3 d4 d5 d6 d7 d8 d9 d10
  rw [← hV]
  have hz_W1 : w.heap.size < W1.heap.size := by rw [hVh]; exact hz_V
  have HB1 : Hid (Below (w.heap.size + 1) W0 W1) := by rw [hV]; exact HBV.out.trans ⟨rfl, rfl, rfl, Nat.le_refl _, fun _ _ => rfl⟩
  have HSC : Hid (ScIs W1 (.slice sa S.length sc) S) := by rw [hV]; exact HSV.out
  clear hV hVc hVh HSV
  go_wp2
  clear d0 d1 d2 d3 d4 d5 d6 d7 d8 d9 d10
  have HIN : Hid (ScIs W1 (.slice sa S.length sc) S) := HSC.out
  have hz1 : w.heap.size < W1.heap.size := by have := HB1.out.size; omega
  have hbw1 : W0.heap.size ≤ W1.heap.size := HB1.out.size
  go_loopw [6, 8] (fun c i wr => ∃ j : Nat, j ≤ m ∧ i = .int .i64 j ∧ c = .int .i64 (upE 11 f j) ∧ Below W1.heap.size W1 wr) (fun c i _ => m - (intOf i).toNat)
  case atStart => exact ⟨0, Nat.zero_le _, rfl, by rw [upE_zero], Below.refl _ _⟩
  case round =>
    obtain ⟨j, hj, rfl, rfl, hbr⟩ := hrel
    have HBR : Hid (Below W1.heap.size W1 wr) := hbr
    have HB2 : Hid (Below (w.heap.size + 1) W0 wr) := HB1.out.trans (hbr.mono (by omega))
    have d10 := (HBOX.out wr HB2.out).c10
    have hltr : w.heap.size < wr.heap.size := by have := hbr.size; omega
    clear hbr
    by_cases hlt : j < m
    · have hji : (j : Int) < (m : Int) := by omega
      by_cases hE : upE 11 f j = 0
      · exact absurd hE (by unfold upE; rw [if_neg (by decide)]; decide)
      · have HEND : Hid (upE 11 f m = upE 11 f j) := upE_end (by omega) hE
        have hE1 : (upE 11 f j == 0) = false := by simpa using hE
        have HBW : Hid (Below w.heap.size w wr) := HB0.out.trans (HB2.out.mono (by omega))
        clear hE
        generalize upE 11 f j = c1 at *
        go_wp2
        go_ret
        exact ⟨ret_int (by rw [HEXF.out, HEND.out]), HBW.out⟩
    · have e : j = m := by omega
      subst e
      have HBW : Hid (Below w.heap.size w wr) := HB0.out.trans (HB2.out.mono (by omega))
      go_wp2
      go_ret
      exact ⟨ret_int (by rw [HEXF.out]), HBW.out⟩
set_option maxHeartbeats 6400000 in
theorem fault_8g (B : Nat) (S : List ByteArray) (it : It) (nm a : ByteArray) (n ax tk : Int) (tn : ByteArray) (m : Nat) (A : Nat → Ex) (ih : ∀ i, FaultOk B (A i)) (hcnt : cntF 8 m = 0) (hq : argsN nm = m) : FaultAt B S (.mk 8 it nm a n ax tk tn m A) := by
  intro w v sv hv hsv hB hT hN
  obtain ⟨sl, cap, rfl, s1, s2, s3, hmc, hcm, hsl⟩ := hv
  have HSC0 : Hid (ScIs w sv S) := hsv
  obtain ⟨sa, sc, rfl, hscm⟩ := cells_scope hsv
  have HSL : Hid (0 < m → ∃ b' off', sl = some ⟨b', off', none⟩ ∧ b' < B ∧ ∀ i, i < m → (A i).At w B b' (off' + i * 11)) := hsl
  have HIH : Hid (∀ i, FaultOk B (A i)) := ih
  have HT : Hid (TB B w) := hT
  rw [nodes_is] at hN
  have HNS : Hid (∀ j, j < m → S.length + 2 * nodesX (A j) ≤ 4294967296) := fun j hj => by have := nodes_part (A := A) hj; omega
  have hmm : m ≤ 4294967296 := by have := nodes_len m A; omega
  have hSl : S.length ≤ 4294967296 := by omega
  have HEXF : Hid (exF (.mk 8 it nm a n ax tk tn m A) S = upE (aloneF S 8 it nm a n ax tk m) (fun i => exF (A i) (if i = 0 then S else innS S 8 nm a)) m) := exF_up S 8 it nm a n ax tk tn m A
  have HF : Hid (∀ j, (fun i => exF (A i) (if i = 0 then S else innS S 8 nm a)) j = exF (A j) (if j = 0 then S else innS S 8 nm a)) := fun j => rfl
  have HNI : Hid (∀ j, j ≠ 0 → j < m → (innS S 8 nm a).length + 2 * nodesX (A j) ≤ 4294967296) := fun j _ hj => by
    have h1 := nodes_part (A := A) hj
    have h2 : (innS S 8 nm a).length ≤ S.length + 2 := by unfold innS addN; split <;> (try split) <;> simp <;> omega
    omega
  generalize (fun i => exF (A i) (if i = 0 then S else innS S 8 nm a)) = f at *
  have HAL : Hid (aloneF S 8 it nm a n ax tk m = kindF S 8 it nm a n ax tk m) := if_pos hcnt
  unfold maxLen at hcm hscm
  have HBOX : Hid (∀ W, Below (w.heap.size + 1) (w.alloc (.cells #[.int .i64 8, .int .i64 it.kind, .int .i64 it.n, .string it.s, .string nm, .string a, .int .i64 n, .int .i64 ax, .int .i64 tk, .string tn, .slice sl m cap] 28)) W → HeadAt W w.heap.size 0 8 it nm a n ax tk tn (.slice sl m cap)) := fun W hW => (head_box w 8 it nm a n ax tk tn _ s1 s2 s3 _).keep (hW.block _ (by omega))
  have HB0 : Hid (Below w.heap.size w (w.alloc (.cells #[.int .i64 8, .int .i64 it.kind, .int .i64 it.n, .string it.s, .string nm, .string a, .int .i64 n, .int .i64 ax, .int .i64 tk, .string tn, .slice sl m cap] 28))) := (Below.refl _ _).alloc (Nat.le_refl _) _
  have hz0 : (w.alloc (.cells #[.int .i64 8, .int .i64 it.kind, .int .i64 it.n, .string it.s, .string nm, .string a, .int .i64 n, .int .i64 ax, .int .i64 tk, .string tn, .slice sl m cap] 28)).heap.size = w.heap.size + 1 := by simp
  have CIN : Hid (∀ W, Calls Tryd.prog 21 #[.int .i64 8, .int .i64 1, .int .i64 11] W fun e w' => e = .returned (.bool true) ∧ w' = W) := fun W => in_any 8 1 11 W
  have CAC : Hid (∀ W, Calls Tryd.prog 22 #[.int .i64 8] W fun e w' => e = .returned (.int .i64 (-1)) ∧ w' = W) := fun W => argCount_8 W
  have HIE : Hid (innS S 8 nm a = S) := rfl
  rw [HIE.out] at HF HNI
  have HEXF2 : Hid (exF (.mk 8 it nm a n ax tk tn m A) S = upE 0 f m) := by rw [HEXF.out, HAL.out]; show upE (if argsN nm < 0 then 6 else if argsN nm = m then 0 else 11) f m = _; rw [if_neg (by omega), if_pos hq]
  clear HEXF HAL
  have HEXF := HEXF2
  clear HEXF2
  have hq1 : ¬ (m : Int) < 0 := by omega
  have CH : Hid (∀ W, Calls Tryd.prog 26 #[.string nm] W fun e w' => e = .returned (.int .i64 (m : Int)) ∧ w' = W) := fun W => by
    have h := argsOf_is nm W
    rw [hq] at h
    exact h
  clear hq
  clear hsl ih hN hsv hT
  go_enter Tryd.func8, Tryd.ntmps8
  go_upto_region 1 with fail
  obtain ⟨W0, hW0⟩ : ∃ W, W = w.alloc (.cells #[.int .i64 8, .int .i64 it.kind, .int .i64 it.n, .string it.s, .string nm, .string a, .int .i64 n, .int .i64 ax, .int .i64 tk, .string tn, .slice sl m cap] 28) := ⟨_, rfl⟩
  rw [← hW0] at HBOX HB0 hz0 ⊢
  clear hW0
  have HZ0 : Hid (W0.heap.size = w.heap.size + 1) := hz0
  have hlt0 : w.heap.size < W0.heap.size := by omega
  have HSCW : Hid (ScIs W0 (.slice sa S.length sc) S) := HSC0.out.below HB0.out
  clear hz0 HSC0
  obtain ⟨d0, d1, d2, d3, d4, d5, d6, d7, d8, d9, d10, _, _, _⟩ := HBOX.out W0 (Below.refl _ _)
  go_upto_region 3 with (go_at_call 21; refine (CIN.out _).mono ?_; rintro e w' ⟨rfl, hww⟩; obtain rfl := hww.symm)
  have HB00 : Hid (Below (w.heap.size + 1) W0 W0) := Below.refl _ _
  have hz_W0 := hlt0
  go_quiet ((go_at_call 22; exact Calls.quiet_of_same (CAC.out _)))
  obtain ⟨V, hV⟩ : ∃ W, W = W0.drewN nq := ⟨_, rfl⟩
  have hVc : ∀ x, V.cell? x = W0.cell? x := fun x => by rw [hV]; rfl
  have hVh : V.heap = W0.heap := by rw [hV]; rfl
  rw [← hVc] at d0 d1 d2 d3 d4 d5 d6 d7 d8 d9 d10
  rw [← hV]
  have hz_V : w.heap.size < V.heap.size := by rw [hVh]; exact hz_W0
  have HBV : Hid (Below (w.heap.size + 1) W0 V) := by rw [hV]; exact HB00.out.trans ⟨rfl, rfl, rfl, Nat.le_refl _, fun _ _ => rfl⟩
  have HSV : Hid (ScIs V (.slice sa S.length sc) S) := by rw [hV]; exact HSCW.out
  clear hV hVc hVh HSCW
  go_upto_region 15 with (go_at_call 26; refine (CH.out _).mono ?_; rintro e w' ⟨rfl, hww⟩; obtain rfl := hww.symm)
  go_quiet ((go_at_call 26; exact Calls.quiet_of_same (CH.out _)))
  obtain ⟨W1, hV⟩ : ∃ W, W = V.drewN nq := ⟨_, rfl⟩
  have hVc : ∀ x, W1.cell? x = V.cell? x := fun x => by rw [hV]; rfl
  have hVh : W1.heap = V.heap := by rw [hV]; rfl
  rw [← hVc] at d0 d1 d2 d3 d4 d5 d6 d7 d8 d9 d10
  rw [← hV]
  have hz_W1 : w.heap.size < W1.heap.size := by rw [hVh]; exact hz_V
  have HB1 : Hid (Below (w.heap.size + 1) W0 W1) := by rw [hV]; exact HBV.out.trans ⟨rfl, rfl, rfl, Nat.le_refl _, fun _ _ => rfl⟩
  have HSC : Hid (ScIs W1 (.slice sa S.length sc) S) := by rw [hV]; exact HSV.out
  clear hV hVc hVh HSV
  go_wp2
  clear d0 d1 d2 d3 d4 d5 d6 d7 d8 d9 d10
  have HIN : Hid (ScIs W1 (.slice sa S.length sc) S) := HSC.out
  have hz1 : w.heap.size < W1.heap.size := by have := HB1.out.size; omega
  have hbw1 : W0.heap.size ≤ W1.heap.size := HB1.out.size
  go_loopw [6, 8] (fun c i wr => ∃ j : Nat, j ≤ m ∧ i = .int .i64 j ∧ c = .int .i64 (upE 0 f j) ∧ Below W1.heap.size W1 wr) (fun c i _ => m - (intOf i).toNat)
  case atStart => exact ⟨0, Nat.zero_le _, rfl, by rw [upE_zero], Below.refl _ _⟩
  case round =>
    obtain ⟨j, hj, rfl, rfl, hbr⟩ := hrel
    have HBR : Hid (Below W1.heap.size W1 wr) := hbr
    have HB2 : Hid (Below (w.heap.size + 1) W0 wr) := HB1.out.trans (hbr.mono (by omega))
    have d10 := (HBOX.out wr HB2.out).c10
    have hltr : w.heap.size < wr.heap.size := by have := hbr.size; omega
    clear hbr
    by_cases hlt : j < m
    · have hji : (j : Int) < (m : Int) := by omega
      by_cases hE : upE 0 f j = 0
      · have HSU : Hid (upE 0 f (j + 1) = f j) := upE_succ hE
        have HFJ : Hid (f j = exF (A j) (if j = 0 then S else S)) := HF.out j
        obtain ⟨b', off', rfl, hb', hA⟩ := HSL.out (by omega)
        have hAj : (A j).At wr B b' (off' + j * 11) := ((hA j hlt).below ((HB0.out).mono hB)).below (HB2.out.mono (by omega))
        obtain ⟨_, k1, it1, nm1, a1, n1, ax1, tk1, tn1, sl1, m1, cap1, hh, hV⟩ := hAj.val
        have e0 := hh.c0
        have e1 := hh.c1
        have e2 := hh.c2
        have e3 := hh.c3
        have e4 := hh.c4
        have e5 := hh.c5
        have e6 := hh.c6
        have e7 := hh.c7
        have e8 := hh.c8
        have e9 := hh.c9
        have e10 := hh.c10
        have hbw : b' < wr.heap.size := by omega
        have HTR : Hid (TB B wr) := HT.out.below (((HB0.out).mono hB).trans (HB2.out.mono (by omega)))
        by_cases hj0 : j = 0
        · subst hj0
          have CL : Hid (Calls Tryd.prog 8 #[.agg #[.int .i64 k1, .int .i64 it1.kind, .int .i64 it1.n, .string it1.s, .string nm1, .string a1, .int .i64 n1, .int .i64 ax1, .int .i64 tk1, .string tn1, .slice sl1 m1 cap1], .slice sa S.length sc] wr fun e w' => e = .returned (.int .i64 (f 0)) ∧ Below wr.heap.size wr w') := by
            have h := HIH.out 0 S wr _ _ hV (HSC.out.below HBR.out) (by omega) HTR.out (HNS.out 0 hlt)
            have e := HFJ.out
            rw [if_pos rfl] at e
            rw [← e] at h
            exact h
          clear hh hV hA hAj HFJ
          simp only [Nat.zero_mul, Nat.add_zero] at e0 e1 e2 e3 e4 e5 e6 e7 e8 e9 e10
          generalize f 0 = c1 at *
          rw [hE]
          go_wp2_with (go_at_call 8; refine CL.out.mono ?_; rintro e w1 ⟨rfl, hb1⟩; have HB3 : Hid (Below W1.heap.size W1 w1) := HBR.out.trans (hb1.mono HBR.out.size); clear hb1 e0 e1 e2 e3 e4 e5 e6 e7 e8 e9 e10 CL d10)
          go_roundw
          case rel => exact ⟨0 + 1, by omega, by go_num, by rw [HSU.out], HB3.out⟩
          case measure => simp [intOf] <;> omega
        · have CL : Hid (Calls Tryd.prog 8 #[.agg #[.int .i64 k1, .int .i64 it1.kind, .int .i64 it1.n, .string it1.s, .string nm1, .string a1, .int .i64 n1, .int .i64 ax1, .int .i64 tk1, .string tn1, .slice sl1 m1 cap1], .slice sa S.length sc] wr fun e w' => e = .returned (.int .i64 (f j)) ∧ Below wr.heap.size wr w') := by
            have h := HIH.out j S wr _ _ hV (HIN.out.below HBR.out) (by omega) HTR.out (HNI.out j hj0 hlt)
            have e := HFJ.out
            rw [if_neg hj0] at e
            rw [← e] at h
            exact h
          clear hh hV hA hAj HFJ
          have hj1 : ((j : Int) == 0) = false := by simp; omega
          generalize f j = c1 at *
          rw [hE]
          clear hj0
          go_wp2_with (go_at_call 8; refine CL.out.mono ?_; rintro e w1 ⟨rfl, hb1⟩; have HB3 : Hid (Below W1.heap.size W1 w1) := HBR.out.trans (hb1.mono HBR.out.size); clear hb1 e0 e1 e2 e3 e4 e5 e6 e7 e8 e9 e10 CL d10)
          go_roundw
          case rel => exact ⟨j + 1, by omega, by go_num, by rw [HSU.out], HB3.out⟩
          case measure => simp [intOf] <;> omega
      · have HEND : Hid (upE 0 f m = upE 0 f j) := upE_end (by omega) hE
        have hE1 : (upE 0 f j == 0) = false := by simpa using hE
        have HBW : Hid (Below w.heap.size w wr) := HB0.out.trans (HB2.out.mono (by omega))
        clear hE
        generalize upE 0 f j = c1 at *
        go_wp2
        go_ret
        exact ⟨ret_int (by rw [HEXF.out, HEND.out]), HBW.out⟩
    · have e : j = m := by omega
      subst e
      have HBW : Hid (Below w.heap.size w wr) := HB0.out.trans (HB2.out.mono (by omega))
      go_wp2
      go_ret
      exact ⟨ret_int (by rw [HEXF.out]), HBW.out⟩
end Go.Proofs.YtlllgelolmkapaaDoor
