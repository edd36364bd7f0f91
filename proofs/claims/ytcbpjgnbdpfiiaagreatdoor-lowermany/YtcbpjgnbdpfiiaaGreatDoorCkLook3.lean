/-
  CONTRACT: a look at an expression, and at all that is in it (core.checking's look): by its parts.
-/
import Derived.Test.YtcbpjgnbdpfiiaaGreatDoorCkLook2
set_option linter.unusedVariables false
namespace Go.Proofs.YtcbpjgnbdpfiiaaGreatDoor
set_option maxRecDepth 100000
open Go.RowKit Go.WideShapes

theorem exF_bad {k : Int} {it : It} {nm a : ByteArray} {n ax tk : Int} {tn : ByteArray} {m : Nat} {A : Nat → Ex} {S : List ByteArray} (h : aloneF S k it nm a n ax tk m ≠ 0) : exF (.mk k it nm a n ax tk tn m A) S = aloneF S k it nm a n ax tk m := if_neg h
theorem exF_ok {k : Int} {it : It} {nm a : ByteArray} {n ax tk : Int} {tn : ByteArray} {m : Nat} {A : Nat → Ex} {S : List ByteArray} (h : aloneF S k it nm a n ax tk m = 0) : exF (.mk k it nm a n ax tk tn m A) S = firstE (fun i => exF (A i) (if i = 0 then S else innS S k nm a)) m := if_pos h
theorem exF_flat {k : Int} {it : It} {nm a : ByteArray} {n ax tk : Int} {tn : ByteArray} {m : Nat} {A : Nat → Ex} {S : List ByteArray} (h : aloneF S k it nm a n ax tk m = 0) (hb : bindsB k = false) : exF (.mk k it nm a n ax tk tn m A) S = firstE (fun i => exF (A i) S) m := by
  rw [exF_ok h]
  congr 1
  funext i
  have : innS S k nm a = S := by unfold innS; rw [hb]; simp
  rw [this]
  split <;> rfl
theorem binds_facts {k : Int} {it : It} {nm a : ByteArray} {n ax tk : Int} {m : Nat} {S : List ByteArray} (h : aloneF S k it nm a n ax tk m = 0) (hb : bindsB k = true) : nm.size ≠ 0 ∧ ∃ m', m = m' + 1 ∧ 1 ≤ m' := by
  have hk : k = 4 ∨ k = 5 ∨ k = 6 := by simpa [bindsB] using hb
  unfold aloneF at h
  by_cases hc : cntF k m = 0
  · rw [if_pos hc] at h
    refine ⟨?_, ?_⟩
    · have h1 : kindF S k it nm a n ax tk m = namesF nm (atN k a) := by unfold kindF; rw [if_neg (by omega), if_neg (by omega), if_pos hk]
      rw [h1] at h
      unfold namesF at h
      intro h0
      rw [if_pos (by omega)] at h
      omega
    · unfold cntF at hc
      rw [if_neg (by omega), if_neg (by omega)] at hc
      by_cases h45 : k = 4 ∨ k = 5
      · rw [if_pos h45] at hc
        by_cases hm : m = 2
        · exact ⟨1, hm, Nat.le_refl _⟩
        · rw [if_neg hm] at hc; omega
      · rw [if_neg h45, if_pos (by omega)] at hc
        by_cases hm : m = 3
        · exact ⟨2, hm, by omega⟩
        · rw [if_neg hm] at hc; omega
  · rw [if_neg hc] at h
    exact absurd h hc
set_option maxHeartbeats 6400000 in
theorem look_step (B : Nat) (k : Int) (it : It) (nm a : ByteArray) (n ax tk : Int) (tn : ByteArray) (m : Nat) (A : Nat → Ex) (ih : ∀ i S, LookOk B (A i) S) (S : List ByteArray) : LookOk B (.mk k it nm a n ax tk tn m A) S := by
  intro w cb tb sb l mk p b off hS hx hcb hsb hBw hT hl hmk hp hSl
  obtain ⟨hb, sl, cap, hh, hmc, hcm, hsl⟩ := hx
  have HX : Hid (exF (.mk k it nm a n ax tk tn m A) S = exF (.mk k it nm a n ax tk tn m A) S) := rfl
  have hnod := nodes_is k it nm a n ax tk tn m A
  rw [hnod] at hp hSl
  have CA : Hid (Calls Tryz.prog 104 #[.pointer (some ⟨cb, 0, none⟩), .pointer (some ⟨b, off, none⟩)] w fun e w' => e = .returned (.int .i64 (aloneF S k it nm a n ax tk m)) ∧ Below w.heap.size w w') :=
    checkAlone_is cb tb sb (cntS S) l mk p b off k it nm a n ax tk tn sl m cap S w hS (fun _ => rfl) (hT w (Below.refl _ _)) (by omega) hh
  have HIH : Hid (∀ i S, LookOk B (A i) S) := ih
  have HS : Hid (CkS w cb tb sb (cntS S) l mk p) := hS
  have HT : Hid (TB B w) := hT
  have HH : Hid (HeadAt w b off k it nm a n ax tk tn (.slice sl m cap)) := hh
  have HSL : Hid (0 < m → ∃ b' off', sl = some ⟨b', off', none⟩ ∧ b' < B ∧ ∀ i, i < m → (A i).At w B b' (off' + i * 11)) := hsl
  clear ih hS hT hh hsl hnod
  by_cases hal : aloneF S k it nm a n ax tk m = 0
  rotate_left
  · rw [exF_bad hal]
    generalize aloneF S k it nm a n ax tk m = R at *
    have he2 : (R == 0) = false := by simpa using hal
    have he3 : (R != 0) = true := by simpa using hal
    go_enter Tryz.func56, Tryz.ntmps56
    go_wp2_with (go_at_call 104; refine CA.out.mono ?_; rintro e w1 ⟨rfl, hb1⟩; have HB1 : Hid (Below w.heap.size w w1) := hb1; clear hb1)
    go_ret
    exact ⟨rfl, ⟨_, _, _, HS.out.below HB1.out, fun h => absurd h hal⟩, HB1.out.mono hBw⟩
  · rw [hal] at CA
    have CC : Hid (∀ W, Below w.heap.size w W → Calls Tryz.prog 105 #[.pointer (some ⟨cb, 0, none⟩), .int .i64 k] W fun e w' => e = .returned (.tuple #[]) ∧ CkS w' cb tb sb (cntS S) (cL k l) (cM k mk) (p + 1) ∧ Below cb W w') := fun W hW => count_is cb tb sb (cntS S) l mk p k W (HS.out.below hW) (by omega) (by omega) (by omega)
    have CB : Hid (∀ W, Calls Tryz.prog 106 #[.int .i64 k] W fun e w' => e = .returned (.bool (bindsB k)) ∧ w' = W) := fun W => binds_is k W
    have hcl : cL k l ≤ p + 1 := by unfold cL; split <;> omega
    have hcm' : cM k mk ≤ p + 1 := by unfold cM; split <;> omega
    have HHB : Hid (∀ W, Below B w W → HeadAt W b off k it nm a n ax tk tn (.slice sl m cap)) := fun W hW => HH.out.keep (hW.block b hb)
    have d0 := HH.out.c0
    cases hbk : bindsB k
    · have HEX : Hid (exF (.mk k it nm a n ax tk tn m A) S = firstE (fun i => exF (A i) S) m) := exF_flat hal hbk
      rw [hbk] at CB
      have CL : Hid (∀ W, Below B w W → CkS W cb tb sb (cntS S) (cL k l) (cM k mk) (p + 1) → Calls Tryz.prog 107 #[.pointer (some ⟨cb, 0, none⟩), .slice sl m cap] W fun e w' => e = .returned (.int .i64 (firstE (fun i => exF (A i) S) m)) ∧
          (∃ l' mk' p', CkS w' cb tb sb (cntS S) l' mk' p' ∧ (firstE (fun i => exF (A i) S) m = 0 → l' = cL k l + sumTo (fun i => cntX loopB (A i)) m ∧ mk' = cM k mk + sumTo (fun i => cntX makeB (A i)) m ∧ p' = p + 1 + sumTo (fun i => nodesX (A i)) m)) ∧ Below B W w') := fun W hW hC =>
        lookAll_is B S A m cap sl W cb tb sb _ _ _ (fun i _ => HIH.out i S) hmc hcm (fun h0 => by
          obtain ⟨b', off', k1, k2, k3⟩ := HSL.out h0
          exact ⟨b', off', k1, k2, fun i hi => (k3 i hi).below hW⟩) hC hcb hsb (Nat.le_trans hBw hW.size) (HT.out.below hW) hcl hcm' (by omega) (by omega)
      have HCN : Hid (cntX loopB (.mk k it nm a n ax tk tn m A) = (if loopB k = true then 1 else 0) + sumTo (fun i => cntX loopB (A i)) m ∧ cntX makeB (.mk k it nm a n ax tk tn m A) = (if makeB k = true then 1 else 0) + sumTo (fun i => cntX makeB (A i)) m ∧ nodesX (.mk k it nm a n ax tk tn m A) = 1 + sumTo (fun i => nodesX (A i)) m) := ⟨rfl, rfl, rfl⟩
      rw [HEX.out]
      generalize firstE (fun i => exF (A i) S) m = R at *
      clear HHB hal
      go_enter Tryz.func56, Tryz.ntmps56
      go_wp2_with (first
        | (go_at_call 104; refine CA.out.mono ?_; rintro e w1 ⟨rfl, hb1⟩; have HB1 : Hid (Below w.heap.size w w1) := hb1; have d1 : w1.cell? ⟨b, off, none⟩ = some (.int .i64 k) := (hb1.cell (p := ⟨b, off, none⟩) (by show b < w.heap.size; omega)).trans d0; clear hb1 d0)
        | (go_at_call 105; refine (CC.out _ HB1.out).mono ?_; rintro e w2 ⟨rfl, hc2, hb2⟩; have HC2 : Hid (CkS w2 cb tb sb (cntS S) (cL k l) (cM k mk) (p + 1)) := hc2; have HB2 : Hid (Below B w w2) := (HB1.out.mono hBw).trans (hb2.mono hcb); have d2 : w2.cell? ⟨b, off, none⟩ = some (.int .i64 k) := (hb2.cell (p := ⟨b, off, none⟩) (by show b < cb; omega)).trans d1; have d3 : w2.cell? ⟨b, off + 10, none⟩ = some (.slice sl m cap) := (HH.out.keep (HB2.out.block b hb)).c10; clear hc2 hb2 d1)
        | (go_at_call 106; refine (CB.out _).mono ?_; rintro e w3 ⟨rfl, rfl⟩)
        | (go_at_call 107; refine (CL.out _ HB2.out HC2.out).mono ?_; rintro e w4 ⟨rfl, ⟨l4, m4, p4, hc4, he4⟩, hb4⟩; have HC4 : Hid (CkS w4 cb tb sb (cntS S) l4 m4 p4) := hc4; have HE4 : Hid (R = 0 → l4 = cL k l + sumTo (fun i => cntX loopB (A i)) m ∧ m4 = cM k mk + sumTo (fun i => cntX makeB (A i)) m ∧ p4 = p + 1 + sumTo (fun i => nodesX (A i)) m) := he4; have HB4 : Hid (Below B w w4) := HB2.out.trans hb4; clear hc4 he4 hb4))
      go_ret
      refine ⟨rfl, ⟨l4, m4, p4, HC4.out, fun h => ?_⟩, HB4.out⟩
      obtain ⟨q1, q2, q3⟩ := HE4.out h
      obtain ⟨r1, r2, r3⟩ := HCN.out
      rw [r1, r2, r3, q1, q2, q3]
      unfold cL cM
      omega
    · obtain ⟨hnz, m', rfl, hm1⟩ := binds_facts hal hbk
      obtain ⟨b', off', rfl, hb', hA⟩ := HSL.out (by omega)
      have HEX : Hid (exF (.mk k it nm a n ax tk tn (m' + 1) A) S = firstE (fun i => exF (A i) (if i = 0 then S else innS S k nm a)) (m' + 1)) := exF_ok hal
      rw [hbk] at CB
      have hs2 := HH.out.s2
      have hs3 : (atN k a).size ≤ maxLen := by
        unfold atN
        split
        · exact Nat.zero_le _
        · exact HH.out.s3
      have hsum := sumTo_shift (fun i => nodesX (A i)) m'
      have hsl1 := sumTo_shift (fun i => cntX loopB (A i)) m'
      have hsl2 := sumTo_shift (fun i => cntX makeB (A i)) m'
      have hA0 : (A 0).At w B b' off' := by simpa using hA 0 (by omega)
      have hcx1 := cntX_le loopB (A 0)
      have hcx2 := cntX_le makeB (A 0)
      have hnx : nodesX (A 0) = cntX (fun _ => true) (A 0) := rfl
      have hm64 : m' ≤ 4294967296 := by
        have := nodes_len (m' + 1) A
        omega
      have CL0 : Hid (∀ W, Below B w W → CkS W cb tb sb (cntS S) (cL k l) (cM k mk) (p + 1) → Calls Tryz.prog 56 #[.pointer (some ⟨cb, 0, none⟩), .pointer (some ⟨b', off', none⟩)] W fun e w' => e = .returned (.int .i64 (exF (A 0) S)) ∧
          (∃ l' mk' p', CkS w' cb tb sb (cntS S) l' mk' p' ∧ (exF (A 0) S = 0 → l' = cL k l + cntX loopB (A 0) ∧ mk' = cM k mk + cntX makeB (A 0) ∧ p' = p + 1 + nodesX (A 0))) ∧ Below B W w') := fun W hW hC =>
        HIH.out 0 S W cb tb sb _ _ _ b' off' hC (hA0.below hW) hcb hsb (Nat.le_trans hBw hW.size) (HT.out.below hW) hcl hcm' (by omega) (by omega)
      have hcap : cap ≤ 9223372036854775807 := by unfold maxLen at hcm; omega
      by_cases he0 : exF (A 0) S = 0
      rotate_left
      · have HRE : Hid (exF (.mk k it nm a n ax tk tn (m' + 1) A) S = exF (A 0) S) := by
          have h1 : exF (.mk k it nm a n ax tk tn (m' + 1) A) S = exF (A 0) S := by
            rw [HEX.out]
            exact firstE_at (f := fun i => exF (A i) (if i = 0 then S else innS S k nm a)) (i := 0) (by omega) rfl he0
          exact h1
        rw [HRE.out]
        generalize exF (A 0) S = R at *
        have he2 : (R == 0) = false := by simpa using he0
        have he3 : (R != 0) = true := by simpa using he0
        clear HEX HRE hal hA0 hsum hsl1 hsl2 hcx1 hcx2 hnx hA HSL HHB
        go_enter Tryz.func56, Tryz.ntmps56
        go_wp2_with (first
          | (go_at_call 104; refine CA.out.mono ?_; rintro e w1 ⟨rfl, hb1⟩; have HB1 : Hid (Below w.heap.size w w1) := hb1; have d1 : w1.cell? ⟨b, off, none⟩ = some (.int .i64 k) := (hb1.cell (p := ⟨b, off, none⟩) (by show b < w.heap.size; omega)).trans d0; clear hb1 d0)
          | (go_at_call 105; refine (CC.out _ HB1.out).mono ?_; rintro e w2 ⟨rfl, hc2, hb2⟩; have HC2 : Hid (CkS w2 cb tb sb (cntS S) (cL k l) (cM k mk) (p + 1)) := hc2; have HB2 : Hid (Below B w w2) := (HB1.out.mono hBw).trans (hb2.mono hcb); have d2 : w2.cell? ⟨b, off, none⟩ = some (.int .i64 k) := (hb2.cell (p := ⟨b, off, none⟩) (by show b < cb; omega)).trans d1; have d3 : w2.cell? ⟨b, off + 10, none⟩ = some (.slice (some ⟨b', off', none⟩) (m' + 1) cap) := (HH.out.keep (HB2.out.block b hb)).c10; clear hc2 hb2 d1)
          | (go_at_call 106; refine (CB.out _).mono ?_; rintro e w3 ⟨rfl, rfl⟩)
          | (go_at_call 56; refine (CL0.out _ HB2.out HC2.out).mono ?_; rintro e w4 ⟨rfl, ⟨l4, m4, p4, hc4, he4⟩, hb4⟩; have HC4 : Hid (CkS w4 cb tb sb (cntS S) l4 m4 p4) := hc4; have HB4 : Hid (Below B w w4) := HB2.out.trans hb4; clear hc4 he4 hb4))
        go_ret
        exact ⟨rfl, ⟨l4, m4, p4, HC4.out, fun h => absurd h he0⟩, HB4.out⟩
      · rw [he0] at CL0
        have HRE : Hid (exF (.mk k it nm a n ax tk tn (m' + 1) A) S = firstE (fun i => exF (A (i + 1)) (innS S k nm a)) m') := by
          have h1 : exF (.mk k it nm a n ax tk tn (m' + 1) A) S = firstE (fun i => exF (A (i + 1)) (innS S k nm a)) m' := by
            rw [HEX.out]
            exact firstE_shift (f := fun i => exF (A i) (if i = 0 then S else innS S k nm a)) he0 m'
          exact h1
        have hinn : (innS S k nm a).length ≤ S.length + 2 := by
          unfold innS addN
          rw [if_pos hbk]
          split <;> simp
        have hpos : 1 ≤ nodesX (A 0) := by
          cases A 0 with
          | no => exact Nat.le_refl _
          | mk k it nm a n ax tk tn m A => rw [nodes_is]; omega
        have CL : Hid (∀ W, Below B w W → CkS W cb tb sb (cntS (innS S k nm a)) (cL k l + cntX loopB (A 0)) (cM k mk + cntX makeB (A 0)) (p + 1 + nodesX (A 0)) → Calls Tryz.prog 107 #[.pointer (some ⟨cb, 0, none⟩), .slice (some ⟨b', off' + 11, none⟩) m' (cap - 1)] W fun e w' => e = .returned (.int .i64 (firstE (fun i => exF (A (i + 1)) (innS S k nm a)) m')) ∧
            (∃ l' mk' p', CkS w' cb tb sb (cntS (innS S k nm a)) l' mk' p' ∧ (firstE (fun i => exF (A (i + 1)) (innS S k nm a)) m' = 0 → l' = cL k l + cntX loopB (A 0) + sumTo (fun i => cntX loopB (A (i + 1))) m' ∧ mk' = cM k mk + cntX makeB (A 0) + sumTo (fun i => cntX makeB (A (i + 1))) m' ∧ p' = p + 1 + nodesX (A 0) + sumTo (fun i => nodesX (A (i + 1))) m')) ∧ Below B W w') := fun W hW hC =>
          lookAll_is B (innS S k nm a) (fun i => A (i + 1)) m' (cap - 1) _ W cb tb sb _ _ _ (fun i _ => HIH.out (i + 1) _) (by omega) (by unfold maxLen; omega) (fun h0 => ⟨b', off' + 11, rfl, hb', fun i hi => by
            have h1 := (hA (i + 1) (by omega)).below hW
            have e : off' + 11 + i * 11 = off' + (i + 1) * 11 := by omega
            rw [e]; exact h1⟩) hC hcb hsb (Nat.le_trans hBw hW.size) (HT.out.below hW) (by omega) (by omega) (by omega) (by omega)
        have CO : Hid (∀ W, Below B w W → Calls Tryz.prog 108 #[.pointer (some ⟨b, off, none⟩)] W fun e w' => e = .returned (.string (atN k a)) ∧ w' = W) := fun W hW => atOf_is b off k it nm a n ax tk tn _ W (HHB.out W hW)
        have CE : Hid (∀ w3 W : World, CkS w3 cb tb sb (cntS S) (cL k l + cntX loopB (A 0)) (cM k mk + cntX makeB (A 0)) (p + 1 + nodesX (A 0)) → B ≤ w3.heap.size → W.heap = (w3.alloc (.cells #[.string nm, .string (atN k a)] 9)).heap → W.os = w3.os → W.tape = w3.tape → W.output = w3.output → Calls Tryz.prog 86 #[.map (some sb), .slice (some ⟨w3.heap.size, 0, none⟩) 2 2] W fun e w' => e = .returned (.tuple #[]) ∧ CkS w' cb tb sb (cntS (innS S k nm a)) (cL k l + cntX loopB (A 0)) (cM k mk + cntX makeB (A 0)) (p + 1 + nodesX (A 0)) ∧ Below B w3 w') := fun w3 W h1 h2 h3 h4 h5 h6 =>
          enter_ck B S k nm a cb tb sb _ _ _ w3 W h1 hsb h2 hbk hnz hs2 hs3 (by omega) h3 h4 h5 h6
        have CV : Hid (∀ w3 W l4 m4 p4, CkS w3 cb tb sb (cntS (innS S k nm a)) l4 m4 p4 → B ≤ w3.heap.size → W.heap = (w3.alloc (.cells #[.string nm, .string (atN k a)] 9)).heap → W.os = w3.os → W.tape = w3.tape → W.output = w3.output → Calls Tryz.prog 87 #[.map (some sb), .slice (some ⟨w3.heap.size, 0, none⟩) 2 2] W fun e w' => e = .returned (.tuple #[]) ∧ CkS w' cb tb sb (cntS S) l4 m4 p4 ∧ Below B w3 w') := fun w3 W l4 m4 p4 h1 h2 h3 h4 h5 h6 =>
          leave_ck B S k nm a cb tb sb _ _ _ w3 W h1 hsb h2 hbk hnz hs2 hs3 (by omega) h3 h4 h5 h6
        have HCN : Hid (cntX loopB (.mk k it nm a n ax tk tn (m' + 1) A) = (if loopB k = true then 1 else 0) + sumTo (fun i => cntX loopB (A i)) (m' + 1) ∧ cntX makeB (.mk k it nm a n ax tk tn (m' + 1) A) = (if makeB k = true then 1 else 0) + sumTo (fun i => cntX makeB (A i)) (m' + 1) ∧ nodesX (.mk k it nm a n ax tk tn (m' + 1) A) = 1 + sumTo (fun i => nodesX (A i)) (m' + 1)) := ⟨rfl, rfl, rfl⟩
        have HSH : Hid (sumTo (fun i => cntX loopB (A i)) (m' + 1) = cntX loopB (A 0) + sumTo (fun i => cntX loopB (A (i + 1))) m' ∧ sumTo (fun i => cntX makeB (A i)) (m' + 1) = cntX makeB (A 0) + sumTo (fun i => cntX makeB (A (i + 1))) m' ∧ sumTo (fun i => nodesX (A i)) (m' + 1) = nodesX (A 0) + sumTo (fun i => nodesX (A (i + 1))) m') := ⟨hsl1, hsl2, hsum⟩
        rw [HRE.out]
        generalize firstE (fun i => exF (A (i + 1)) (innS S k nm a)) m' = R at *
        have hlow : (1 : Int) ≤ ((m' + 1 : Nat) : Int) := by omega
        generalize atN k a = at' at *
        clear HEX HRE hal hA0 hsum hsl1 hsl2 hcx1 hcx2 hnx hA HSL HHB hcl hcm' hpos hinn hs2 hs3
        go_enter Tryz.func56, Tryz.ntmps56
        go_upto_region 11 with (first
          | (go_at_call 104; refine CA.out.mono ?_; rintro e w1 ⟨rfl, hb1⟩; have HB1 : Hid (Below w.heap.size w w1) := hb1; have d1 : w1.cell? ⟨b, off, none⟩ = some (.int .i64 k) := (hb1.cell (p := ⟨b, off, none⟩) (by show b < w.heap.size; omega)).trans d0; clear hb1 d0)
          | (go_at_call 105; refine (CC.out _ HB1.out).mono ?_; rintro e w2 ⟨rfl, hc2, hb2⟩; have HC2 : Hid (CkS w2 cb tb sb (cntS S) (cL k l) (cM k mk) (p + 1)) := hc2; have HB2 : Hid (Below B w w2) := (HB1.out.mono hBw).trans (hb2.mono hcb); have d2 : w2.cell? ⟨b, off, none⟩ = some (.int .i64 k) := (hb2.cell (p := ⟨b, off, none⟩) (by show b < cb; omega)).trans d1; have d3 : w2.cell? ⟨b, off + 10, none⟩ = some (.slice (some ⟨b', off', none⟩) (m' + 1) cap) := (HH.out.keep (HB2.out.block b hb)).c10; clear hc2 hb2 d1)
          | (go_at_call 106; refine (CB.out _).mono ?_; rintro e w3 ⟨rfl, rfl⟩)
          | (go_at_call 56; refine (CL0.out _ HB2.out HC2.out).mono ?_; rintro e w4 ⟨rfl, ⟨l4, m4, p4, hc4, he4⟩, hb4⟩; obtain ⟨q1, q2, q3⟩ := he4 (by first | rfl | trivial); subst q1 q2 q3; have HC4 : Hid (CkS w4 cb tb sb (cntS S) (cL k l + cntX loopB (A 0)) (cM k mk + cntX makeB (A 0)) (p + 1 + nodesX (A 0))) := hc4; have HB4 : Hid (Below B w w4) := HB2.out.trans hb4; clear hc4 he4 hb4)
          | (go_at_call 108; refine (CO.out _ HB4.out).mono ?_; rintro e w5 ⟨rfl, rfl⟩))
        obtain ⟨c0, c1, _⟩ := HC4.out.cells
        have hcb4 := HC4.out.lt
        have d4 := (HH.out.keep (HB4.out.block b hb)).c4
        have hb4 : b < w5.heap.size := by have := HB4.out.size; omega
        go_region_with (go_at_call 86; refine Calls.mono (CE.out w5 _ HC4.out ?_ ?_ ?_ ?_ ?_) ?_; (· exact Nat.le_trans hBw HB4.out.size); (· exact rfl); (· exact rfl); (· exact rfl); (· exact rfl); rintro e w6 ⟨rfl, hc6, hb6⟩; have HC6 : Hid (CkS w6 cb tb sb (cntS (innS S k nm a)) (cL k l + cntX loopB (A 0)) (cM k mk + cntX makeB (A 0)) (p + 1 + nodesX (A 0))) := hc6; have HB6 : Hid (Below B w w6) := HB4.out.trans hb6; clear hc6 hb6)
        all_goals
          revert HB6 HC6
          revert w6
          refine ?merged
        intro w6 HC6 HB6
        clear c0 c1 hcb4 d4 hb4 HC4 HB4
        have d10 := (HH.out.keep (HB6.out.block b hb)).c10
        have hbw6 : b < w6.heap.size := by have := HB6.out.size; omega
        go_upto_region 13 with (first
          | (go_at_call 107; refine (CL.out _ HB6.out HC6.out).mono ?_; rintro e w7 ⟨rfl, ⟨l7, m7, p7, hc7, he7⟩, hb7⟩; have HC7 : Hid (CkS w7 cb tb sb (cntS (innS S k nm a)) l7 m7 p7) := hc7; have HE7 : Hid (R = 0 → l7 = cL k l + cntX loopB (A 0) + sumTo (fun i => cntX loopB (A (i + 1))) m' ∧ m7 = cM k mk + cntX makeB (A 0) + sumTo (fun i => cntX makeB (A (i + 1))) m' ∧ p7 = p + 1 + nodesX (A 0) + sumTo (fun i => nodesX (A (i + 1))) m') := he7; have HB7 : Hid (Below B w w7) := HB6.out.trans hb7; clear hc7 he7 hb7))
        obtain ⟨c0, c1, _⟩ := HC7.out.cells
        have hcb7 := HC7.out.lt
        have d4 := (HH.out.keep (HB7.out.block b hb)).c4
        have hb7 : b < w7.heap.size := by have := HB7.out.size; omega
        go_region_with (go_at_call 87; refine Calls.mono (CV.out w7 _ _ _ _ HC7.out ?_ ?_ ?_ ?_ ?_) ?_; (· exact Nat.le_trans hBw HB7.out.size); (· exact rfl); (· exact rfl); (· exact rfl); (· exact rfl); rintro e w8 ⟨rfl, hc8, hb8⟩; have HC8 : Hid (CkS w8 cb tb sb (cntS S) l7 m7 p7) := hc8; have HB8 : Hid (Below B w w8) := HB7.out.trans hb8; clear hc8 hb8)
        all_goals
          revert HB8 HC8
          revert w8
          refine ?merged2
        intro w8 HC8 HB8
        go_wp2
        go_ret
        refine ⟨rfl, ⟨l7, m7, p7, HC8.out, fun h => ?_⟩, HB8.out⟩
        obtain ⟨q1, q2, q3⟩ := HE7.out h
        obtain ⟨r1, r2, r3⟩ := HCN.out
        obtain ⟨s1, s2, s3⟩ := HSH.out
        rw [r1, r2, r3, q1, q2, q3, s1, s2, s3]
        unfold cL cM
        omega
/-- a look at any expression -/
theorem look_is (B : Nat) (x : Ex) : ∀ S, LookOk B x S := by
  induction x with
  | no => exact fun S w cb tb sb l mk p b off _ h => h.elim
  | mk k it nm a n ax tk tn m A ih => exact fun S => look_step B k it nm a n ax tk tn m A ih S
end Go.Proofs.YtcbpjgnbdpfiiaaGreatDoor
