/-
  CONTRACT: what the document refuses of an expression (exprFault): a Var.
-/
import Derived.Test.YtlllgelolmkapaaDoorCfFb
import Derived.Deep.Cut
import Derived.Deep.QuietTactic
import Derived.BigQuiet
import Derived.Deep.RegionLaw
set_option linter.unusedVariables false
namespace Go.Proofs.YtlllgelolmkapaaDoor
set_option maxRecDepth 100000
open Go.RowKit Go.WideShapes

set_option maxHeartbeats 6400000 in
theorem fault_2b (B : Nat) (S : List ByteArray) (it : It) (nm a : ByteArray) (n ax tk : Int) (tn : ByteArray) (m : Nat) (A : Nat → Ex) (ih : ∀ i, FaultOk B (A i)) (hcnt : cntF 2 m = 0) (hha : hasB S nm = false) : FaultAt B S (.mk 2 it nm a n ax tk tn m A) := by
  have hm0 : m = 0 := by unfold cntF at hcnt; revert hcnt; simp
  subst hm0
  intro w v sv hv hsv hB hT hN
  obtain ⟨sl, cap, rfl, s1, s2, s3, hmc, hcm, hsl⟩ := hv
  have HSC0 : Hid (ScIs w sv S) := hsv
  obtain ⟨sa, sc, rfl, hscm⟩ := cells_scope hsv
  have HSL : Hid (0 < 0 → ∃ b' off', sl = some ⟨b', off', none⟩ ∧ b' < B ∧ ∀ i, i < 0 → (A i).At w B b' (off' + i * 11)) := hsl
  have HIH : Hid (∀ i, FaultOk B (A i)) := ih
  have HT : Hid (TB B w) := hT
  rw [nodes_is] at hN
  have HNS : Hid (∀ j, j < 0 → S.length + 2 * nodesX (A j) ≤ 4294967296) := fun j hj => by have := nodes_part (A := A) hj; omega
  have hmm : 0 ≤ 4294967296 := by have := nodes_len 0 A; omega
  have hSl : S.length ≤ 4294967296 := by omega
  have HEXF : Hid (exF (.mk 2 it nm a n ax tk tn 0 A) S = upE (aloneF S 2 it nm a n ax tk 0) (fun i => exF (A i) (if i = 0 then S else innS S 2 nm a)) 0) := exF_up S 2 it nm a n ax tk tn 0 A
  have HF : Hid (∀ j, (fun i => exF (A i) (if i = 0 then S else innS S 2 nm a)) j = exF (A j) (if j = 0 then S else innS S 2 nm a)) := fun j => rfl
  have HNI : Hid (∀ j, j ≠ 0 → j < 0 → (innS S 2 nm a).length + 2 * nodesX (A j) ≤ 4294967296) := fun j _ hj => by
    have h1 := nodes_part (A := A) hj
    have h2 : (innS S 2 nm a).length ≤ S.length + 2 := by unfold innS addN; split <;> (try split) <;> simp <;> omega
    omega
  generalize (fun i => exF (A i) (if i = 0 then S else innS S 2 nm a)) = f at *
  have HAL : Hid (aloneF S 2 it nm a n ax tk 0 = kindF S 2 it nm a n ax tk 0) := if_pos hcnt
  unfold maxLen at hcm hscm
  have HBOX : Hid (∀ W, Below (w.heap.size + 1) (w.alloc (.cells #[.int .i64 2, .int .i64 it.kind, .int .i64 it.n, .string it.s, .string nm, .string a, .int .i64 n, .int .i64 ax, .int .i64 tk, .string tn, .slice sl 0 cap] 28)) W → HeadAt W w.heap.size 0 2 it nm a n ax tk tn (.slice sl 0 cap)) := fun W hW => (head_box w 2 it nm a n ax tk tn _ s1 s2 s3 _).keep (hW.block _ (by omega))
  have HB0 : Hid (Below w.heap.size w (w.alloc (.cells #[.int .i64 2, .int .i64 it.kind, .int .i64 it.n, .string it.s, .string nm, .string a, .int .i64 n, .int .i64 ax, .int .i64 tk, .string tn, .slice sl 0 cap] 28))) := (Below.refl _ _).alloc (Nat.le_refl _) _
  have hz0 : (w.alloc (.cells #[.int .i64 2, .int .i64 it.kind, .int .i64 it.n, .string it.s, .string nm, .string a, .int .i64 n, .int .i64 ax, .int .i64 tk, .string tn, .slice sl 0 cap] 28)).heap.size = w.heap.size + 1 := by simp
  have CIN : Hid (∀ W, Calls Tryd.prog 21 #[.int .i64 2, .int .i64 1, .int .i64 11] W fun e w' => e = .returned (.bool true) ∧ w' = W) := fun W => in_any 2 1 11 W
  have CAC : Hid (∀ W, Calls Tryd.prog 22 #[.int .i64 2] W fun e w' => e = .returned (.int .i64 (0)) ∧ w' = W) := fun W => argCount_2 W
  have HIE : Hid (innS S 2 nm a = S) := rfl
  rw [HIE.out] at HF HNI
  have HEXF2 : Hid (exF (.mk 2 it nm a n ax tk tn 0 A) S = upE 6 f 0) := by rw [HEXF.out, HAL.out]; show upE (if hasB S nm = true then 0 else 6) f 0 = _; rw [hha]; rfl
  clear HEXF HAL
  have HEXF := HEXF2
  clear HEXF2
  clear hsl ih hN hsv hT
  go_enter Tryd.func8, Tryd.ntmps8
  go_upto_region 1 with fail
  obtain ⟨W0, hW0⟩ : ∃ W, W = w.alloc (.cells #[.int .i64 2, .int .i64 it.kind, .int .i64 it.n, .string it.s, .string nm, .string a, .int .i64 n, .int .i64 ax, .int .i64 tk, .string tn, .slice sl 0 cap] 28) := ⟨_, rfl⟩
  rw [← hW0] at HBOX HB0 hz0 ⊢
  clear hW0
  have HZ0 : Hid (W0.heap.size = w.heap.size + 1) := hz0
  have hlt0 : w.heap.size < W0.heap.size := by omega
  have HSCW : Hid (ScIs W0 (.slice sa S.length sc) S) := HSC0.out.below HB0.out
  clear hz0 HSC0
  obtain ⟨d0, d1, d2, d3, d4, d5, d6, d7, d8, d9, d10, _, _, _⟩ := HBOX.out W0 (Below.refl _ _)
  go_upto_region 3 with (go_at_call 21; refine (CIN.out _).mono ?_; rintro e w' ⟨rfl, hww⟩; obtain rfl := hww.symm)
  have HB00 : Hid (Below (w.heap.size + 1) W0 W0) := Below.refl _ _
  have hz_W0 := hlt0
  go_quiet ((go_at_call 22; exact Calls.quiet_of_same (CAC.out _)))
  obtain ⟨V, hV⟩ : ∃ W, W = W0.drewN nq := ⟨_, rfl⟩
  have hVc : ∀ x, V.cell? x = W0.cell? x := fun x => by rw [hV]; rfl
  have hVh : V.heap = W0.heap := by rw [hV]; rfl
  rw [← hVc] at d0 d1 d2 d3 d4 d5 d6 d7 d8 d9 d10
  rw [← hV]
  have hz_V : w.heap.size < V.heap.size := by rw [hVh]; exact hz_W0
  have HBV : Hid (Below (w.heap.size + 1) W0 V) := by rw [hV]; exact HB00.out.trans ⟨rfl, rfl, rfl, Nat.le_refl _, fun _ _ => rfl⟩
  have HSV : Hid (ScIs V (.slice sa S.length sc) S) := by rw [hV]; exact HSCW.out
  clear hV hVc hVh HSCW
  have CH : Hid (Calls Tryd.prog 24 #[.slice sa S.length sc, .string nm] V fun e w' => e = .returned (.bool false) ∧ w' = V) := by
    have h := hasText_is _ S nm V HSV.out
    rw [hha] at h
    exact h
  go_wp2_with (go_at_call 24; refine CH.out.mono ?_; rintro e w' ⟨rfl, hww⟩; obtain rfl := hww.symm)
  clear d0 d1 d2 d3 d4 d5 d6 d7 d8 d9 d10
  obtain ⟨W1, hW1⟩ : ∃ W, W = V := ⟨_, rfl⟩
  rw [← hW1] at HBV HSV ⊢
  have HB1 : Hid (Below (w.heap.size + 1) W0 W1) := HBV
  have HSC : Hid (ScIs W1 (.slice sa S.length sc) S) := HSV
  clear hW1 HBV HSV
  have HIN : Hid (ScIs W1 (.slice sa S.length sc) S) := HSC.out
  have hz1 : w.heap.size < W1.heap.size := by have := HB1.out.size; omega
  have hbw1 : W0.heap.size ≤ W1.heap.size := HB1.out.size
  go_loopw [6, 8] (fun c i wr => ∃ j : Nat, j ≤ 0 ∧ i = .int .i64 j ∧ c = .int .i64 (upE 6 f j) ∧ Below W1.heap.size W1 wr) (fun c i _ => 0 - (intOf i).toNat)
  case atStart => exact ⟨0, Nat.zero_le _, rfl, by rw [upE_zero], Below.refl _ _⟩
  case round =>
    obtain ⟨j, hj, rfl, rfl, hbr⟩ := hrel
    have HBR : Hid (Below W1.heap.size W1 wr) := hbr
    have HB2 : Hid (Below (w.heap.size + 1) W0 wr) := HB1.out.trans (hbr.mono (by omega))
    have d10 := (HBOX.out wr HB2.out).c10
    have hltr : w.heap.size < wr.heap.size := by have := hbr.size; omega
    clear hbr
    by_cases hlt : j < 0
    · exact absurd hlt (Nat.not_lt_zero _)
    · have e : j = 0 := by omega
      subst e
      have HBW : Hid (Below w.heap.size w wr) := HB0.out.trans (HB2.out.mono (by omega))
      go_wp2
      go_ret
      exact ⟨ret_int (by rw [HEXF.out]), HBW.out⟩
set_option maxHeartbeats 6400000 in
theorem fault_2g (B : Nat) (S : List ByteArray) (it : It) (nm a : ByteArray) (n ax tk : Int) (tn : ByteArray) (m : Nat) (A : Nat → Ex) (ih : ∀ i, FaultOk B (A i)) (hcnt : cntF 2 m = 0) (hha : hasB S nm = true) : FaultAt B S (.mk 2 it nm a n ax tk tn m A) := by
  have hm0 : m = 0 := by unfold cntF at hcnt; revert hcnt; simp
  subst hm0
  intro w v sv hv hsv hB hT hN
  obtain ⟨sl, cap, rfl, s1, s2, s3, hmc, hcm, hsl⟩ := hv
  have HSC0 : Hid (ScIs w sv S) := hsv
  obtain ⟨sa, sc, rfl, hscm⟩ := cells_scope hsv
  have HSL : Hid (0 < 0 → ∃ b' off', sl = some ⟨b', off', none⟩ ∧ b' < B ∧ ∀ i, i < 0 → (A i).At w B b' (off' + i * 11)) := hsl
  have HIH : Hid (∀ i, FaultOk B (A i)) := ih
  have HT : Hid (TB B w) := hT
  rw [nodes_is] at hN
  have HNS : Hid (∀ j, j < 0 → S.length + 2 * nodesX (A j) ≤ 4294967296) := fun j hj => by have := nodes_part (A := A) hj; omega
  have hmm : 0 ≤ 4294967296 := by have := nodes_len 0 A; omega
  have hSl : S.length ≤ 4294967296 := by omega
  have HEXF : Hid (exF (.mk 2 it nm a n ax tk tn 0 A) S = upE (aloneF S 2 it nm a n ax tk 0) (fun i => exF (A i) (if i = 0 then S else innS S 2 nm a)) 0) := exF_up S 2 it nm a n ax tk tn 0 A
  have HF : Hid (∀ j, (fun i => exF (A i) (if i = 0 then S else innS S 2 nm a)) j = exF (A j) (if j = 0 then S else innS S 2 nm a)) := fun j => rfl
  have HNI : Hid (∀ j, j ≠ 0 → j < 0 → (innS S 2 nm a).length + 2 * nodesX (A j) ≤ 4294967296) := fun j _ hj => by
    have h1 := nodes_part (A := A) hj
    have h2 : (innS S 2 nm a).length ≤ S.length + 2 := by unfold innS addN; split <;> (try split) <;> simp <;> omega
    omega
  generalize (fun i => exF (A i) (if i = 0 then S else innS S 2 nm a)) = f at *
  have HAL : Hid (aloneF S 2 it nm a n ax tk 0 = kindF S 2 it nm a n ax tk 0) := if_pos hcnt
  unfold maxLen at hcm hscm
  have HBOX : Hid (∀ W, Below (w.heap.size + 1) (w.alloc (.cells #[.int .i64 2, .int .i64 it.kind, .int .i64 it.n, .string it.s, .string nm, .string a, .int .i64 n, .int .i64 ax, .int .i64 tk, .string tn, .slice sl 0 cap] 28)) W → HeadAt W w.heap.size 0 2 it nm a n ax tk tn (.slice sl 0 cap)) := fun W hW => (head_box w 2 it nm a n ax tk tn _ s1 s2 s3 _).keep (hW.block _ (by omega))
  have HB0 : Hid (Below w.heap.size w (w.alloc (.cells #[.int .i64 2, .int .i64 it.kind, .int .i64 it.n, .string it.s, .string nm, .string a, .int .i64 n, .int .i64 ax, .int .i64 tk, .string tn, .slice sl 0 cap] 28))) := (Below.refl _ _).alloc (Nat.le_refl _) _
  have hz0 : (w.alloc (.cells #[.int .i64 2, .int .i64 it.kind, .int .i64 it.n, .string it.s, .string nm, .string a, .int .i64 n, .int .i64 ax, .int .i64 tk, .string tn, .slice sl 0 cap] 28)).heap.size = w.heap.size + 1 := by simp
  have CIN : Hid (∀ W, Calls Tryd.prog 21 #[.int .i64 2, .int .i64 1, .int .i64 11] W fun e w' => e = .returned (.bool true) ∧ w' = W) := fun W => in_any 2 1 11 W
  have CAC : Hid (∀ W, Calls Tryd.prog 22 #[.int .i64 2] W fun e w' => e = .returned (.int .i64 (0)) ∧ w' = W) := fun W => argCount_2 W
  have HIE : Hid (innS S 2 nm a = S) := rfl
  rw [HIE.out] at HF HNI
  have HEXF2 : Hid (exF (.mk 2 it nm a n ax tk tn 0 A) S = upE 0 f 0) := by rw [HEXF.out, HAL.out]; show upE (if hasB S nm = true then 0 else 6) f 0 = _; rw [hha]; rfl
  clear HEXF HAL
  have HEXF := HEXF2
  clear HEXF2
  clear hsl ih hN hsv hT
  go_enter Tryd.func8, Tryd.ntmps8
  go_upto_region 1 with fail
  obtain ⟨W0, hW0⟩ : ∃ W, W = w.alloc (.cells #[.int .i64 2, .int .i64 it.kind, .int .i64 it.n, .string it.s, .string nm, .string a, .int .i64 n, .int .i64 ax, .int .i64 tk, .string tn, .slice sl 0 cap] 28) := ⟨_, rfl⟩
  rw [← hW0] at HBOX HB0 hz0 ⊢
  clear hW0
  have HZ0 : Hid (W0.heap.size = w.heap.size + 1) := hz0
  have hlt0 : w.heap.size < W0.heap.size := by omega
  have HSCW : Hid (ScIs W0 (.slice sa S.length sc) S) := HSC0.out.below HB0.out
  clear hz0 HSC0
  obtain ⟨d0, d1, d2, d3, d4, d5, d6, d7, d8, d9, d10, _, _, _⟩ := HBOX.out W0 (Below.refl _ _)
  go_upto_region 3 with (go_at_call 21; refine (CIN.out _).mono ?_; rintro e w' ⟨rfl, hww⟩; obtain rfl := hww.symm)
  have HB00 : Hid (Below (w.heap.size + 1) W0 W0) := Below.refl _ _
  have hz_W0 := hlt0
  go_quiet ((go_at_call 22; exact Calls.quiet_of_same (CAC.out _)))
  obtain ⟨V, hV⟩ : ∃ W, W = W0.drewN nq := ⟨_, rfl⟩
  have hVc : ∀ x, V.cell? x = W0.cell? x := fun x => by rw [hV]; rfl
  have hVh : V.heap = W0.heap := by rw [hV]; rfl
  rw [← hVc] at d0 d1 d2 d3 d4 d5 d6 d7 d8 d9 d10
  rw [← hV]
  have hz_V : w.heap.size < V.heap.size := by rw [hVh]; exact hz_W0
  have HBV : Hid (Below (w.heap.size + 1) W0 V) := by rw [hV]; exact HB00.out.trans ⟨rfl, rfl, rfl, Nat.le_refl _, fun _ _ => rfl⟩
  have HSV : Hid (ScIs V (.slice sa S.length sc) S) := by rw [hV]; exact HSCW.out
  clear hV hVc hVh HSCW
  have CH : Hid (Calls Tryd.prog 24 #[.slice sa S.length sc, .string nm] V fun e w' => e = .returned (.bool true) ∧ w' = V) := by
    have h := hasText_is _ S nm V HSV.out
    rw [hha] at h
    exact h
  go_upto_region 15 with (go_at_call 24; refine CH.out.mono ?_; rintro e w' ⟨rfl, hww⟩; obtain rfl := hww.symm)
  go_quiet (fail)
  obtain ⟨W1, hV⟩ : ∃ W, W = V.drewN nq := ⟨_, rfl⟩
  have hVc : ∀ x, W1.cell? x = V.cell? x := fun x => by rw [hV]; rfl
  have hVh : W1.heap = V.heap := by rw [hV]; rfl
  rw [← hVc] at d0 d1 d2 d3 d4 d5 d6 d7 d8 d9 d10
  rw [← hV]
  have hz_W1 : w.heap.size < W1.heap.size := by rw [hVh]; exact hz_V
  have HB1 : Hid (Below (w.heap.size + 1) W0 W1) := by rw [hV]; exact HBV.out.trans ⟨rfl, rfl, rfl, Nat.le_refl _, fun _ _ => rfl⟩
  have HSC : Hid (ScIs W1 (.slice sa S.length sc) S) := by rw [hV]; exact HSV.out
  clear hV hVc hVh HSV
  go_wp2
  clear d0 d1 d2 d3 d4 d5 d6 d7 d8 d9 d10
  have HIN : Hid (ScIs W1 (.slice sa S.length sc) S) := HSC.out
  have hz1 : w.heap.size < W1.heap.size := by have := HB1.out.size; omega
  have hbw1 : W0.heap.size ≤ W1.heap.size := HB1.out.size
  go_loopw [6, 8] (fun c i wr => ∃ j : Nat, j ≤ 0 ∧ i = .int .i64 j ∧ c = .int .i64 (upE 0 f j) ∧ Below W1.heap.size W1 wr) (fun c i _ => 0 - (intOf i).toNat)
  case atStart => exact ⟨0, Nat.zero_le _, rfl, by rw [upE_zero], Below.refl _ _⟩
  case round =>
    obtain ⟨j, hj, rfl, rfl, hbr⟩ := hrel
    have HBR : Hid (Below W1.heap.size W1 wr) := hbr
    have HB2 : Hid (Below (w.heap.size + 1) W0 wr) := HB1.out.trans (hbr.mono (by omega))
    have d10 := (HBOX.out wr HB2.out).c10
    have hltr : w.heap.size < wr.heap.size := by have := hbr.size; omega
    clear hbr
    by_cases hlt : j < 0
    · exact absurd hlt (Nat.not_lt_zero _)
    · have e : j = 0 := by omega
      subst e
      have HBW : Hid (Below w.heap.size w wr) := HB0.out.trans (HB2.out.mono (by omega))
      go_wp2
      go_ret
      exact ⟨ret_int (by rw [HEXF.out]), HBW.out⟩
end Go.Proofs.YtlllgelolmkapaaDoor
