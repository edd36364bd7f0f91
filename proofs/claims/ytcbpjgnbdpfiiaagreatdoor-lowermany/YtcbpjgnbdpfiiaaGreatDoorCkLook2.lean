/-
  CONTRACT: a look at an expression, and at all that is in it (core.checking's look).
-/
import Derived.Test.YtcbpjgnbdpfiiaaGreatDoorCkSmall
import Derived.Test.YtcbpjgnbdpfiiaaGreatDoorRgIn
import Derived.Deep.QuietTactic
import Derived.BigQuiet
import Derived.Deep.RegionLaw
set_option linter.unusedVariables false
namespace Go.Proofs.YtcbpjgnbdpfiiaaGreatDoor
set_option maxRecDepth 100000
open Go.RowKit Go.WideShapes

theorem hidC {p : Prop} (h : p) : Hid p := h
theorem aOld {w : World} {o x : Obj} {b : Nat} (h : w.heap[b]? = some x) : (w.alloc o).heap[b]? = some x := (Below.heap_alloc w o b (Array.getElem?_eq_some_iff.1 h).1).trans h
theorem aNew {w : World} {o : Obj} {g : Nat} (hg : w.heap.size = g) : (w.alloc o).heap[g]? = some o := by subst hg; exact heap_alloc_new w o
theorem sOth {w : World} {b j c : Nat} {v : Value} {x : Obj} (h : w.heap[c]? = some x) (hn : c ≠ b) : (w.setCell ⟨b, j, none⟩ v).heap[c]? = some x := (Below.heap_setCell _ _ _ _ hn).trans h
theorem blC {w w' : World} {B b : Nat} {o : Obj} (hb : Below B w w') (hB : b < B) (h : w.heap[b]? = some o) : w'.heap[b]? = some o := (hb.block b hB).trans h
/-- the cells of a clause, ahead of its expression -/
structure ClAt (w : World) (b off : Nat) (k : Int) (nm a : ByteArray) : Prop where
  c0 : w.cell? ⟨b, off, none⟩ = some (.int .i64 k)
  c1 : w.cell? ⟨b, off + 1, none⟩ = some (.string nm)
  c2 : w.cell? ⟨b, off + 2, none⟩ = some (.string a)
  s1 : nm.size ≤ maxLen
  s2 : a.size ≤ maxLen
theorem ClAt.below {w w' : World} {B b off : Nat} {k : Int} {nm a : ByteArray} (h : ClAt w b off k nm a) (hb : Below B w w') (hB : b < B) : ClAt w' b off k nm a :=
  have e := fun o => hb.cell (p := ⟨b, o, none⟩) hB
  ⟨(e _).trans h.c0, (e _).trans h.c1, (e _).trans h.c2, h.s1, h.s2⟩
/-- what is said of the first clause of those that are left -/
def cf1 (n : Nat) (k : Int) (nm a : ByteArray) (k2 lo : Int) : Int :=
  if k = 1 then namesF nm a else if k = 2 then namesF nm noB else if k = 3 then (if n ≠ 1 ∧ k2 ≠ 4 then 4 else 0) else if k = 4 then (if n ≠ 1 ∨ lo ≠ 1 then 4 else 0) else 3
set_option maxHeartbeats 3200000 in
theorem checkFirst_is (b off n cap : Nat) (k : Int) (nm a : ByteArray) (k2 lo : Int) (w : World) (hn : 1 ≤ n) (hc : n ≤ cap) (hm : cap ≤ maxLen) (h : ClAt w b off k nm a) (h2 : 1 < n → w.cell? ⟨b, off + 15, none⟩ = some (.int .i64 k2)) (hb : b < w.heap.size) :
    Calls Tryz.prog 124 #[.slice (some ⟨b, off, none⟩) n cap, .int .i64 lo] w fun e w' => e = .returned (.int .i64 (cf1 n k nm a k2 lo)) ∧ Below w.heap.size w w' := by
  obtain ⟨c0, c1, c2, s1, s2⟩ := h
  have CN : Hid (∀ W x y, x.size ≤ maxLen → y.size ≤ maxLen → Calls Tryz.prog 82 #[.string x, .string y] W fun e w' => e = .returned (.int .i64 (namesF x y)) ∧ w' = W) := fun W x y hx hy => checkNames_is x y W hx hy
  have hn0 : (0 : Int) < (n : Int) := by omega
  unfold maxLen at hm
  by_cases e1 : k = 1
  · subst e1
    have CM : Hid (∀ W, Calls Tryz.prog 82 #[.string nm, .string a] W fun e w' => e = .returned (.int .i64 (cf1 n 1 nm a k2 lo)) ∧ w' = W) := fun W => CN.out W nm a s1 s2
    generalize cf1 n 1 nm a k2 lo = R at *
    clear CN h2
    by_cases en : (n : Int) = 1
    all_goals
      go_enter Tryz.func124, Tryz.ntmps124
      go_upto_region 5 with fail
      go_quiet ((go_at_call 82; exact Calls.quiet_of_same (CM.out _)))
      go_wp2_with fail
      go_ret
      exact ⟨rfl, rfl, rfl, rfl, Nat.le_refl _, fun _ _ => rfl⟩
  · have g1 : (k == 1) = false := by simpa using e1
    by_cases e2 : k = 2
    · subst e2
      have CM : Hid (∀ W, Calls Tryz.prog 82 #[.string nm, .string ⟨#[]⟩] W fun e w' => e = .returned (.int .i64 (cf1 n 2 nm a k2 lo)) ∧ w' = W) := fun W => CN.out W nm noB s1 (by decide)
      generalize cf1 n 2 nm a k2 lo = R at *
      clear CN h2
      by_cases en : (n : Int) = 1
      all_goals
        go_enter Tryz.func124, Tryz.ntmps124
        go_wp2_with (go_at_call 82; refine (CM.out _).mono ?_; rintro e w1 ⟨rfl, hw1⟩; obtain rfl := hw1.symm)
        go_ret
        exact ⟨rfl, Below.refl _ _⟩
    · have g2 : (k == 2) = false := by simpa using e2
      by_cases e3 : k = 3
      · subst e3
        by_cases en : n = 1
        · subst en
          go_enter Tryz.func124, Tryz.ntmps124
          go_wp2_with fail
          go_ret
          exact ⟨rfl, Below.refl _ _⟩
        · have c3 := h2 (by omega)
          have en1 : ((n : Int) == 1) = false := by simp; omega
          have en2 : (1 : Int) < (n : Int) := by omega
          by_cases e4 : k2 = 4
          · have HR : Hid (cf1 n 3 nm a k2 lo = 0) := by unfold cf1; rw [if_neg (by decide), if_neg (by decide), if_pos rfl, if_neg (by omega)]; exact rfl
            rw [HR.out]
            subst e4
            go_enter Tryz.func124, Tryz.ntmps124
            go_wp2_with fail
            go_ret
            exact ⟨rfl, Below.refl _ _⟩
          · have HR : Hid (cf1 n 3 nm a k2 lo = 4) := by unfold cf1; rw [if_neg (by decide), if_neg (by decide), if_pos rfl, if_pos ⟨en, e4⟩]; exact rfl
            rw [HR.out]
            have g4 : (k2 == 4) = false := by simpa using e4
            clear e4
            go_enter Tryz.func124, Tryz.ntmps124
            go_wp2_with fail
            go_ret
            exact ⟨rfl, Below.refl _ _⟩
      · have g3 : (k == 3) = false := by simpa using e3
        by_cases e4 : k = 4
        · subst e4
          by_cases en : n = 1
          · subst en
            by_cases el : lo = 1
            · subst el
              go_enter Tryz.func124, Tryz.ntmps124
              go_wp2_with fail
              go_ret
              exact ⟨rfl, Below.refl _ _⟩
            · have HR : Hid (cf1 1 4 nm a k2 lo = 4) := by unfold cf1; rw [if_neg (by decide), if_neg (by decide), if_neg (by decide), if_pos rfl, if_pos (.inr el)]; exact rfl
              rw [HR.out]
              have gl : (lo == 1) = false := by simpa using el
              clear el
              go_enter Tryz.func124, Tryz.ntmps124
              go_wp2_with fail
              go_ret
              exact ⟨rfl, Below.refl _ _⟩
          · have HR : Hid (cf1 n 4 nm a k2 lo = 4) := by unfold cf1; rw [if_neg (by decide), if_neg (by decide), if_neg (by decide), if_pos rfl, if_pos (.inl en)]; exact rfl
            rw [HR.out]
            have en1 : ((n : Int) == 1) = false := by simp; omega
            clear h2
            go_enter Tryz.func124, Tryz.ntmps124
            go_wp2_with fail
            go_ret
            exact ⟨rfl, Below.refl _ _⟩
        · have g4 : (k == 4) = false := by simpa using e4
          have HR : Hid (cf1 n k nm a k2 lo = 3) := by unfold cf1; rw [if_neg e1, if_neg e2, if_neg e3, if_neg e4]; exact rfl
          rw [HR.out]
          clear h2 e1 e2 e3 e4
          by_cases en : (n : Int) = 1
          all_goals
            go_enter Tryz.func124, Tryz.ntmps124
            go_wp2_with fail
            go_ret
            exact ⟨rfl, Below.refl _ _⟩
/-- how many loops are ahead -/
def loN (K : Nat → Int) : Nat → Nat
  | 0 => 0
  | i + 1 => loN K i + (if K i = 1 then 1 else 0)
theorem loN_le (K : Nat → Int) : ∀ i, loN K i ≤ i
  | 0 => Nat.le_refl _
  | i + 1 => by
    have := loN_le K i
    unfold loN
    split <;> omega
def cfi (n : Nat) (K : Nat → Int) (N A : Nat → ByteArray) (i : Nat) : Int := cf1 (n - i) (K i) (N i) (A i) (K (i + 1)) (loN K i)
/-- what is said of clauses -/
def clF (n : Nat) (K : Nat → Int) (N A : Nat → ByteArray) : Int := firstE (cfi n K N A) n
set_option maxHeartbeats 3200000 in
theorem checkClauses_is (b off n cap : Nat) (K : Nat → Int) (N A : Nat → ByteArray) (w : World) (hc : n ≤ cap) (hm : cap ≤ maxLen) (h : ∀ i, i < n → ClAt w b (off + i * 15) (K i) (N i) (A i)) (hb : b < w.heap.size) :
    Calls Tryz.prog 83 #[.slice (some ⟨b, off, none⟩) n cap] w fun e w' => e = .returned (.int .i64 (clF n K N A)) ∧ Below w.heap.size w w' := by
  have CF : Hid (∀ W i, Below w.heap.size w W → i < n → Calls Tryz.prog 124 #[.slice (some ⟨b, off + i * 15, none⟩) (n - i) (cap - i), .int .i64 (loN K i : Int)] W fun e w' => e = .returned (.int .i64 (cfi n K N A i)) ∧ Below W.heap.size W w') := fun W i hW hi => checkFirst_is b (off + i * 15) (n - i) (cap - i) (K i) (N i) (A i) (K (i + 1)) (loN K i) W (by omega) (by omega) (by omega) ((h i hi).below hW hb) (fun h1 => by
    have := ((h (i + 1) (by omega)).below hW hb).c0
    rw [show off + (i + 1) * 15 = off + i * 15 + 15 by omega] at this
    exact this) (Nat.lt_of_lt_of_le hb hW.size)
  have HK : Hid (∀ W i, Below w.heap.size w W → i < n → W.cell? ⟨b, off + i * 15, none⟩ = some (.int .i64 (K i))) := fun W i hW hi => ((h i hi).below hW hb).c0
  unfold maxLen at hm
  clear h
  go_enter Tryz.func83, Tryz.ntmps83
  go_wp2
  go_loopw [3, 8] (fun l i wr => ∃ j : Nat, j ≤ n ∧ i = .int .i64 j ∧ l = .int .i64 (loN K j : Int) ∧ firstE (cfi n K N A) j = 0 ∧ Below w.heap.size w wr) (fun _ i _ => n - (intOf i).toNat)
  case atStart => exact ⟨0, Nat.zero_le _, rfl, rfl, rfl, Below.refl _ _⟩
  case round =>
    obtain ⟨j, hj, rfl, rfl, hf, hbr⟩ := hrel
    have HBR := hidC hbr
    have HF := hidC hf
    have hzr := hbr.size
    have hbz : b < wr.heap.size := by omega
    clear hbr hf
    by_cases hlt : j < n
    · have hlo := loN_le K j
      have CI : Hid (Calls Tryz.prog 124 #[.slice (some ⟨b, off + j * 15, none⟩) (n - j) (cap - j), .int .i64 (loN K j : Int)] wr fun e w' => e = .returned (.int .i64 (cfi n K N A j)) ∧ Below wr.heap.size wr w') := CF.out wr j HBR.out hlt
      have hji : (j : Int) < (n : Int) := by omega
      have HNE : Hid (¬ cfi n K N A j = 0 → clF n K N A = cfi n K N A j) := fun h1 => firstE_at hlt HF.out h1
      have HZ : Hid (cfi n K N A j = 0 → firstE (cfi n K N A) (j + 1) = 0) := fun h1 => by rw [firstE_succ, if_pos HF.out]; exact h1
      generalize cfi n K N A j = R at CI HNE HZ
      by_cases hR : R = 0
      · subst hR
        have HZ1 : Hid (firstE (cfi n K N A) (j + 1) = 0) := HZ.out rfl
        clear HZ HNE
        by_cases hk : K j = 1
        · have HLO : Hid (loN K (j + 1) = loN K j + 1) := by show loN K j + (if K j = 1 then 1 else 0) = _; rw [if_pos hk]
          go_wp2_with (go_at_call 124; refine CI.out.mono ?_; rintro e w1 ⟨rfl, hb1⟩; have HB1 : Hid (Below w.heap.size w w1) := HBR.out.trans (hb1.mono hzr); have k0 := HK.out w1 j HB1.out hlt; rw [hk] at k0; have hz1 := HB1.out.size; have hb1z : b < w1.heap.size := (by omega); clear hb1 CI)
          go_roundw
          case rel => exact ⟨j + 1, by omega, by go_num, by rw [HLO.out]; simp, HZ1.out, HB1.out⟩
          case measure => simp [intOf]; omega
        · have HLO : Hid (loN K (j + 1) = loN K j) := by show loN K j + (if K j = 1 then 1 else 0) = _; rw [if_neg hk]; exact rfl
          have hk1 : (K j == 1) = false := by simpa using hk
          clear hk
          go_wp2_with (go_at_call 124; refine CI.out.mono ?_; rintro e w1 ⟨rfl, hb1⟩; have HB1 : Hid (Below w.heap.size w w1) := HBR.out.trans (hb1.mono hzr); have k0 := HK.out w1 j HB1.out hlt; have hz1 := HB1.out.size; have hb1z : b < w1.heap.size := (by omega); clear hb1 CI)
          go_roundw
          case rel => exact ⟨j + 1, by omega, by go_num, by rw [HLO.out], HZ1.out, HB1.out⟩
          case measure => simp [intOf]; omega
      · have hR1 : (R == 0) = false := by simpa using hR
        have HRE : Hid (R = clF n K N A) := (HNE.out hR).symm
        clear HZ HNE hR
        go_wp2_with (go_at_call 124; refine CI.out.mono ?_; rintro e w1 ⟨rfl, hb1⟩; have HB1 : Hid (Below w.heap.size w w1) := HBR.out.trans (hb1.mono hzr); clear hb1 CI)
        go_ret
        exact ⟨ret_int HRE.out, HB1.out⟩
    · obtain rfl : j = n := by omega
      have HCL : Hid (0 = clF j K N A) := HF.out.symm
      go_wp2_with fail
      go_ret
      exact ⟨ret_int HCL.out, HBR.out⟩
end Go.Proofs.YtcbpjgnbdpfiiaaGreatDoor
set_option linter.unusedVariables false
namespace Go.Proofs.YtcbpjgnbdpfiiaaGreatDoor
set_option maxRecDepth 100000
open Go.RowKit Go.WideShapes

set_option maxHeartbeats 800000 in
theorem enter_is (M : Nat) (N : ByteArray → Nat) (L : List ByteArray) (v : Value) (w : World) (hS : SMap w M N) (hv : TxtsL w v L) (hL : ∀ x ∈ L, x.size ≤ maxLen) (hN : ∀ y, N y + L.length ≤ 4611686018427387904) :
    Calls Tryz.prog 86 #[.map (some M), v] w fun e w' => e = .returned (.tuple #[]) ∧ SMap w' M (fun y => N y + cntE L y) ∧ TurnedM w w' M := by
  obtain ⟨b, off, cap, rfl, hlc, hcm, hbw, hcells⟩ := hv
  have hbM : 0 < L.length → b ≠ M := fun h0 e => by
    obtain ⟨V, ⟨es, clock, h1, _⟩, _⟩ := hS
    have := hcells 0 h0
    subst e
    simp [World.cell?, h1] at this
  have HC : Hid (∀ i (h : i < L.length), w.cell? ⟨b, off + i, none⟩ = some (.string L[i])) := hcells
  have HS : Hid (SMap w M N) := hS
  have HL : Hid (∀ x ∈ L, x.size ≤ maxLen) := hL
  have HN : Hid (∀ y, N y + L.length ≤ 4611686018427387904) := hN
  unfold maxLen at hcm
  clear hcells hS hL hN
  go_enter Tryz.func86, Tryz.ntmps86
  go_wp2
  go_loopw [8] (fun i wr => ∃ k : Nat, k ≤ L.length ∧ i = .int .i64 k ∧ SMap wr M (fun y => N y + cntE (L.take k) y) ∧ TurnedM w wr M) (fun i _ => L.length - (intOf i).toNat)
  case atStart => exact ⟨0, Nat.zero_le _, rfl, HS.out.congr (fun y => by simp [cntE]), TurnedM.refl _ _⟩
  case round =>
    obtain ⟨k, hk, rfl, hsm, htm⟩ := hrel
    by_cases hlt : k < L.length
    · have hii : (k : Int) < (L.length : Int) := by omega
      have hc : wr.cell? ⟨b, off + k, none⟩ = some (.string L[k]) := by
        rw [← HC.out k hlt]; unfold World.cell?; rw [htm.2.1 b (hbM (by omega))]
      have hs := HL.out L[k] (List.getElem_mem _)
      have hn1 := HN.out L[k]
      have hn2 := cntE_le (L.take k) L[k]
      have hn3 : (L.take k).length ≤ L.length := by first | (simp; done) | (simp; omega)
      have HTM : Hid (TurnedM w wr M) := htm
      have HCT : Hid (∀ y, cntE (L.take (k + 1)) y = cntE (L.take k) y + (if hitB y L[k] = true then 1 else 0)) := fun y => cntE_take hlt y
      obtain ⟨V, hV, hVN⟩ := hsm
      have HV : Hid (VMap wr M V) := hV
      have HVN : Hid (∀ x, (V x).getD (.int .i64 0) = .int .i64 ((N x + cntE (L.take k) x : Nat) : Int)) := hVN
      generalize L[k] = x at *
      clear htm hV hVN
      by_cases h0 : x.size = 0
      · have g0 := isEmpty_yes h0
        go_wp2
        go_roundw
        case rel => exact ⟨k + 1, by omega, by go_num, ⟨V, HV.out, fun y => by have e : N y + cntE (L.take k) y = N y + cntE (L.take (k + 1)) y := (by have := HCT.out y; rw [hit_no h0] at this; simp only [Bool.false_eq_true, if_false] at this; omega); rw [HVN.out y, e]⟩, HTM.out⟩
        case measure => simp [intOf]; omega
      · have g0 := isEmpty_no h0
        obtain ⟨c, hc1⟩ : ∃ c : Nat, c = N x + cntE (L.take k) x := ⟨_, rfl⟩
        have hc2 : (V x).getD (.int .i64 0) = .int .i64 (c : Int) := by rw [hc1]; exact HVN.out x
        have HC1 : Hid (c = N x + cntE (L.take k) x) := hc1
        have hcb : c ≤ 4611686018427387904 := by rw [hc1]; omega
        clear hc1
        go_wp2_with (first
          | (refine wpList_vlook rfl (.tmp 14) (.tmp 15) 76 3 (.int .i64 0) rfl Tryz.underlying76 (zeroI _) M V x rfl rfl hs HV.out ?_; rw [hc2])
          | (refine wpList_vput rfl (.tmp 14) (.tmp 15) (.tmp 17) 76 3 rfl Tryz.underlying76 M V x (.int .i64 (c + 1 : Nat)) rfl rfl (by simp [Act.eval] <;> omega) hs HV.out ?_; intro w1 hv1 ht1; have HV1 : Hid (SMap w1 M (fun y => if (y.toList == x.toList) = true then c + 1 else N y + cntE (L.take k) y)) := SMap.put HVN.out hv1; have HT1 : Hid (TurnedM wr w1 M) := ht1; clear hv1 ht1))
        go_roundw
        case rel => exact ⟨k + 1, by omega, by go_num, HV1.out.congr (fun y => by have := HCT.out y; rw [hit_yes h0] at this; by_cases e : (y.toList == x.toList) = true; (· rw [if_pos e] at this ⊢; have e2 := same_iff.1 e; subst e2; have := HC1.out; omega); (· rw [if_neg e] at this ⊢; omega)), HT1.out.1.trans HTM.out.1, fun c hc => (HT1.out.2.1 c hc).trans (HTM.out.2.1 c hc), HT1.out.2.2.1.trans HTM.out.2.2.1, HT1.out.2.2.2.1.trans HTM.out.2.2.2.1, HT1.out.2.2.2.2.trans HTM.out.2.2.2.2⟩
        case measure => simp [intOf]; omega
    · have e : k = L.length := by omega
      subst e
      have HSM : Hid (SMap wr M (fun y => N y + cntE L y)) := hsm.congr (fun y => by rw [List.take_length])
      have HTM : Hid (TurnedM w wr M) := htm
      clear hsm htm
      go_wp2
      go_end0
      exact ⟨rfl, HSM.out, HTM.out⟩
set_option maxHeartbeats 800000 in
theorem leave_is (M : Nat) (N : ByteArray → Nat) (L : List ByteArray) (v : Value) (w : World) (hS : SMap w M (fun y => N y + cntE L y)) (hv : TxtsL w v L) (hL : ∀ x ∈ L, x.size ≤ maxLen) (hN : ∀ y, N y + L.length ≤ 4611686018427387904) :
    Calls Tryz.prog 87 #[.map (some M), v] w fun e w' => e = .returned (.tuple #[]) ∧ SMap w' M N ∧ TurnedM w w' M := by
  obtain ⟨b, off, cap, rfl, hlc, hcm, hbw, hcells⟩ := hv
  have hbM : 0 < L.length → b ≠ M := fun h0 e => by
    obtain ⟨V, ⟨es, clock, h1, _⟩, _⟩ := hS
    have := hcells 0 h0
    subst e
    simp [World.cell?, h1] at this
  have HC : Hid (∀ i (h : i < L.length), w.cell? ⟨b, off + i, none⟩ = some (.string L[i])) := hcells
  have HS : Hid (SMap w M (fun y => N y + cntE L y)) := hS
  have HL : Hid (∀ x ∈ L, x.size ≤ maxLen) := hL
  have HN : Hid (∀ y, N y + L.length ≤ 4611686018427387904) := hN
  unfold maxLen at hcm
  clear hcells hS hL hN
  go_enter Tryz.func87, Tryz.ntmps87
  go_wp2
  go_loopw [8] (fun i wr => ∃ k : Nat, k ≤ L.length ∧ i = .int .i64 k ∧ SMap wr M (fun y => N y + cntE (L.drop k) y) ∧ TurnedM w wr M) (fun i _ => L.length - (intOf i).toNat)
  case atStart => exact ⟨0, Nat.zero_le _, rfl, HS.out, TurnedM.refl _ _⟩
  case round =>
    obtain ⟨k, hk, rfl, hsm, htm⟩ := hrel
    by_cases hlt : k < L.length
    · have hii : (k : Int) < (L.length : Int) := by omega
      have hc : wr.cell? ⟨b, off + k, none⟩ = some (.string L[k]) := by
        rw [← HC.out k hlt]; unfold World.cell?; rw [htm.2.1 b (hbM (by omega))]
      have hs := HL.out L[k] (List.getElem_mem _)
      have hn1 := HN.out L[k]
      have hn2 := cntE_le (L.drop k) L[k]
      have hn3 : (L.drop k).length ≤ L.length := by first | (simp; done) | (simp; omega)
      have HTM : Hid (TurnedM w wr M) := htm
      have HCT : Hid (∀ y, cntE (L.drop k) y = cntE (L.drop (k + 1)) y + (if hitB y L[k] = true then 1 else 0)) := fun y => cntE_drop hlt y
      obtain ⟨V, hV, hVN⟩ := hsm
      have HV : Hid (VMap wr M V) := hV
      have HVN : Hid (∀ x, (V x).getD (.int .i64 0) = .int .i64 ((N x + cntE (L.drop k) x : Nat) : Int)) := hVN
      generalize L[k] = x at *
      clear htm hV hVN
      by_cases h0 : x.size = 0
      · have g0 := isEmpty_yes h0
        go_wp2
        go_roundw
        case rel => exact ⟨k + 1, by omega, by go_num, ⟨V, HV.out, fun y => by have e : N y + cntE (L.drop k) y = N y + cntE (L.drop (k + 1)) y := (by have := HCT.out y; rw [hit_no h0] at this; simp only [Bool.false_eq_true, if_false] at this; omega); rw [HVN.out y, e]⟩, HTM.out⟩
        case measure => simp [intOf]; omega
      · have g0 := isEmpty_no h0
        obtain ⟨c, hc1⟩ : ∃ c : Nat, c = N x + cntE (L.drop k) x := ⟨_, rfl⟩
        have hc2 : (V x).getD (.int .i64 0) = .int .i64 (c : Int) := by rw [hc1]; exact HVN.out x
        have HC1 : Hid (c = N x + cntE (L.drop k) x) := hc1
        have hcp : 1 ≤ c := by have := HCT.out x; rw [hit_yes h0, if_pos (by simp)] at this; omega
        have hcb : c ≤ 4611686018427387904 := by rw [hc1]; omega
        clear hc1
        go_wp2_with (first
          | (refine wpList_vlook rfl (.tmp 14) (.tmp 15) 76 3 (.int .i64 0) rfl Tryz.underlying76 (zeroI _) M V x rfl rfl hs HV.out ?_; rw [hc2])
          | (refine wpList_vput rfl (.tmp 14) (.tmp 15) (.tmp 17) 76 3 rfl Tryz.underlying76 M V x (.int .i64 (c - 1 : Nat)) rfl rfl (by simp [Act.eval] <;> omega) hs HV.out ?_; intro w1 hv1 ht1; have HV1 : Hid (SMap w1 M (fun y => if (y.toList == x.toList) = true then c - 1 else N y + cntE (L.drop k) y)) := SMap.put HVN.out hv1; have HT1 : Hid (TurnedM wr w1 M) := ht1; clear hv1 ht1))
        go_roundw
        case rel => exact ⟨k + 1, by omega, by go_num, HV1.out.congr (fun y => by have := HCT.out y; rw [hit_yes h0] at this; by_cases e : (y.toList == x.toList) = true; (· rw [if_pos e] at this ⊢; have e2 := same_iff.1 e; subst e2; have := HC1.out; omega); (· rw [if_neg e] at this ⊢; omega)), HT1.out.1.trans HTM.out.1, fun c hc => (HT1.out.2.1 c hc).trans (HTM.out.2.1 c hc), HT1.out.2.2.1.trans HTM.out.2.2.1, HT1.out.2.2.2.1.trans HTM.out.2.2.2.1, HT1.out.2.2.2.2.trans HTM.out.2.2.2.2⟩
        case measure => simp [intOf]; omega
    · have e : k = L.length := by omega
      subst e
      have HSM : Hid (SMap wr M N) := hsm.congr (fun y => by simp [cntE])
      have HTM : Hid (TurnedM w wr M) := htm
      clear hsm htm
      go_wp2
      go_end0
      exact ⟨rfl, HSM.out, HTM.out⟩

/-- one more part -/
def cL (k : Int) (l : Nat) : Nat := l + (if loopB k = true then 1 else 0)
def cM (k : Int) (l : Nat) : Nat := l + (if makeB k = true then 1 else 0)
set_option maxHeartbeats 800000 in
theorem count_is (cb tb sb : Nat) (N : ByteArray → Nat) (l m p : Nat) (k : Int) (w : World) (h : CkS w cb tb sb N l m p) (hl : l ≤ 4611686018427387904) (hm : m ≤ 4611686018427387904) (hp : p ≤ 4611686018427387904) :
    Calls Tryz.prog 105 #[.pointer (some ⟨cb, 0, none⟩), .int .i64 k] w fun e w' => e = .returned (.tuple #[]) ∧ CkS w' cb tb sb N (cL k l) (cM k m) (p + 1) ∧ Below cb w w' := by
  obtain ⟨c0, c1, c2, c3, c4, f2, f3, f4⟩ := h.cells
  have hcb := h.lt
  have HP : Hid (CkS (w.setCell ⟨cb, 4, none⟩ (.int .i64 ((p : Int) + 1))) cb tb sb N l m (p + 1)) := by
    have h1 : CkS (w.setCell ⟨cb, 4, none⟩ (.int .i64 ((p : Int) + 1))) cb tb sb N l m (p + 1) := by have := h.setP (p + 1); simpa using this
    exact h1
  have HB : Hid (Below cb w (w.setCell ⟨cb, 4, none⟩ (.int .i64 ((p : Int) + 1)))) := (Below.refl cb w).setCell (p := ⟨cb, 4, none⟩) (Nat.le_refl _) _
  obtain ⟨d0, d1, d2, d3, d4, e2, e3, e4⟩ := HP.out.cells
  by_cases h5 : k = 5
  · subst h5
    have H5 : Hid (CkS ((w.setCell ⟨cb, 4, none⟩ (.int .i64 ((p : Int) + 1))).setCell ⟨cb, 2, none⟩ (.int .i64 ((l : Int) + 1))) cb tb sb N (l + 1) m (p + 1)) := (show CkS ((w.setCell ⟨cb, 4, none⟩ (.int .i64 ((p : Int) + 1))).setCell ⟨cb, 2, none⟩ (.int .i64 ((l : Int) + 1))) cb tb sb N (l + 1) m (p + 1) from (by have h9 := HP.out.setL (l + 1); simpa using h9))
    clear h
    go_enter Tryz.func105, Tryz.ntmps105
    go_wp2
    go_end0
    exact ⟨rfl, H5.out, HB.out.setCell (p := ⟨cb, _, none⟩) (Nat.le_refl _) _⟩
  · have g5 : (k == 5) = false := by simpa using h5
    by_cases h6 : k = 6
    · subst h6
      have H5 : Hid (CkS ((w.setCell ⟨cb, 4, none⟩ (.int .i64 ((p : Int) + 1))).setCell ⟨cb, 2, none⟩ (.int .i64 ((l : Int) + 1))) cb tb sb N (l + 1) m (p + 1)) := (show CkS ((w.setCell ⟨cb, 4, none⟩ (.int .i64 ((p : Int) + 1))).setCell ⟨cb, 2, none⟩ (.int .i64 ((l : Int) + 1))) cb tb sb N (l + 1) m (p + 1) from (by have h9 := HP.out.setL (l + 1); simpa using h9))
      clear h
      go_enter Tryz.func105, Tryz.ntmps105
      go_wp2
      go_end0
      exact ⟨rfl, H5.out, HB.out.setCell (p := ⟨cb, _, none⟩) (Nat.le_refl _) _⟩
    · have g6 : (k == 6) = false := by simpa using h6
      by_cases h10 : k = 10
      · subst h10
        have H5 : Hid (CkS ((w.setCell ⟨cb, 4, none⟩ (.int .i64 ((p : Int) + 1))).setCell ⟨cb, 3, none⟩ (.int .i64 ((m : Int) + 1))) cb tb sb N l (m + 1) (p + 1)) := by
          have h1 : CkS ((w.setCell ⟨cb, 4, none⟩ (.int .i64 ((p : Int) + 1))).setCell ⟨cb, 3, none⟩ (.int .i64 ((m : Int) + 1))) cb tb sb N l (m + 1) (p + 1) := by have := HP.out.setK (m + 1); simpa using this
          exact h1
        clear h
        go_enter Tryz.func105, Tryz.ntmps105
        go_wp2
        go_end0
        exact ⟨rfl, H5.out, HB.out.setCell (p := ⟨cb, _, none⟩) (Nat.le_refl _) _⟩
      · have g10 : (k == 10) = false := by simpa using h10
        have e1 : cL k l = l := by unfold cL loopB; rw [decide_eq_false (by omega)]; rfl
        have e2' : cM k m = m := by unfold cM makeB; rw [decide_eq_false (by omega)]; rfl
        rw [e1, e2']
        clear h
        go_enter Tryz.func105, Tryz.ntmps105
        go_wp2
        go_end0
        exact ⟨rfl, HP.out, HB.out⟩
end Go.Proofs.YtcbpjgnbdpfiiaaGreatDoor
set_option linter.unusedVariables false
namespace Go.Proofs.YtcbpjgnbdpfiiaaGreatDoor
set_option maxRecDepth 100000
open Go.RowKit Go.WideShapes

set_option maxHeartbeats 3200000 in
theorem checkAlone_bad (cb tb sb : Nat) (N : ByteArray → Nat) (l mk p : Nat) (b off : Nat) (k : Int) (it : It) (nm a : ByteArray) (n ax tk : Int) (tn : ByteArray) (sl : Option Addr) (m cap : Nat) (S : List ByteArray) (w : World) (h : CkS w cb tb sb N l mk p) (hN : ∀ x, N x = cntS S x) (hT : Tabs w) (hb : b < w.heap.size)
    (hh : HeadAt w b off k it nm a n ax tk tn (.slice sl m cap)) (hc : cntF k m ≠ 0) :
    Calls Tryz.prog 104 #[.pointer (some ⟨cb, 0, none⟩), .pointer (some ⟨b, off, none⟩)] w fun e w' => e = .returned (.int .i64 (aloneF S k it nm a n ax tk m)) ∧ Below w.heap.size w w' := by
  have HA : Hid (∀ W, Calls Tryz.prog 132 #[.int .i64 k, .int .i64 m] W fun e w' => e = .returned (.int .i64 (cntF k m)) ∧ w' = W) := fun W => by
    have h1 := checkArgs_is k m W
    exact h1
  obtain ⟨c0, c1, c2, c3, c4, f2, f3, f4⟩ := h.cells
  have d0 := hh.c0
  have d1 := hh.c1
  have d2 := hh.c2
  have d3 := hh.c3
  have d4 := hh.c4
  have d5 := hh.c5
  have d6 := hh.c6
  have d7 := hh.c7
  have d8 := hh.c8
  have d9 := hh.c9
  have d10 := hh.c10
  have hcb := h.lt
  have HR : Hid (aloneF S k it nm a n ax tk m = cntF k m) := if_neg hc
  rw [HR.out]
  clear h hh HR c2 c3 c4 f2 f3 f4
  generalize cntF k m = C at *
  have hc1 : (C == 0) = false := by simpa using hc
  have hc2 : (C != 0) = true := by simpa using hc
  go_enter Tryz.func104, Tryz.ntmps104
  go_upto_region 1 with fail
  go_quiet ((go_at_call 132; exact Calls.quiet_of_same (HA.out _)))
  go_wp2
  go_ret
  exact ⟨rfl, rfl, rfl, rfl, Nat.le_refl _, fun _ _ => rfl⟩
set_option maxHeartbeats 3200000 in
theorem checkAlone_3 (cb tb sb : Nat) (N : ByteArray → Nat) (l mk p : Nat) (b off : Nat) (it : It) (nm a : ByteArray) (n ax tk : Int) (tn : ByteArray) (sl : Option Addr) (m cap : Nat) (S : List ByteArray) (w : World) (h : CkS w cb tb sb N l mk p) (hN : ∀ x, N x = cntS S x) (hT : Tabs w) (hb : b < w.heap.size)
    (hh : HeadAt w b off 3 it nm a n ax tk tn (.slice sl m cap)) (hc : cntF 3 m = 0) :
    Calls Tryz.prog 104 #[.pointer (some ⟨cb, 0, none⟩), .pointer (some ⟨b, off, none⟩)] w fun e w' => e = .returned (.int .i64 (aloneF S 3 it nm a n ax tk m)) ∧ Below w.heap.size w w' := by
  have HA : Hid (∀ W, Calls Tryz.prog 132 #[.int .i64 3, .int .i64 m] W fun e w' => e = .returned (.int .i64 0) ∧ w' = W) := fun W => by
    have h1 := checkArgs_is 3 m W
    rw [hc] at h1
    exact h1
  obtain ⟨c0, c1, c2, c3, c4, f2, f3, f4⟩ := h.cells
  have d0 := hh.c0
  have d1 := hh.c1
  have d2 := hh.c2
  have d3 := hh.c3
  have d4 := hh.c4
  have d5 := hh.c5
  have d6 := hh.c6
  have d7 := hh.c7
  have d8 := hh.c8
  have d9 := hh.c9
  have d10 := hh.c10
  have hcb := h.lt
  have HR : Hid (aloneF S 3 it nm a n ax tk m = 0) := (if_pos hc).trans (by simp [kindF])
  rw [HR.out]
  clear h hh HR c2 c3 c4 f2 f3 f4
  go_enter Tryz.func104, Tryz.ntmps104
  go_upto_region 1 with fail
  go_quiet ((go_at_call 132; exact Calls.quiet_of_same (HA.out _)))
  go_wp2
  go_ret
  exact ⟨rfl, rfl, rfl, rfl, Nat.le_refl _, fun _ _ => rfl⟩
set_option maxHeartbeats 3200000 in
theorem checkAlone_7 (cb tb sb : Nat) (N : ByteArray → Nat) (l mk p : Nat) (b off : Nat) (it : It) (nm a : ByteArray) (n ax tk : Int) (tn : ByteArray) (sl : Option Addr) (m cap : Nat) (S : List ByteArray) (w : World) (h : CkS w cb tb sb N l mk p) (hN : ∀ x, N x = cntS S x) (hT : Tabs w) (hb : b < w.heap.size)
    (hh : HeadAt w b off 7 it nm a n ax tk tn (.slice sl m cap)) (hc : cntF 7 m = 0) :
    Calls Tryz.prog 104 #[.pointer (some ⟨cb, 0, none⟩), .pointer (some ⟨b, off, none⟩)] w fun e w' => e = .returned (.int .i64 (aloneF S 7 it nm a n ax tk m)) ∧ Below w.heap.size w w' := by
  have HA : Hid (∀ W, Calls Tryz.prog 132 #[.int .i64 7, .int .i64 m] W fun e w' => e = .returned (.int .i64 0) ∧ w' = W) := fun W => by
    have h1 := checkArgs_is 7 m W
    rw [hc] at h1
    exact h1
  obtain ⟨c0, c1, c2, c3, c4, f2, f3, f4⟩ := h.cells
  have d0 := hh.c0
  have d1 := hh.c1
  have d2 := hh.c2
  have d3 := hh.c3
  have d4 := hh.c4
  have d5 := hh.c5
  have d6 := hh.c6
  have d7 := hh.c7
  have d8 := hh.c8
  have d9 := hh.c9
  have d10 := hh.c10
  have hcb := h.lt
  have HR : Hid (aloneF S 7 it nm a n ax tk m = 0) := (if_pos hc).trans (by simp [kindF])
  rw [HR.out]
  clear h hh HR c2 c3 c4 f2 f3 f4
  go_enter Tryz.func104, Tryz.ntmps104
  go_upto_region 1 with fail
  go_quiet ((go_at_call 132; exact Calls.quiet_of_same (HA.out _)))
  go_wp2
  go_ret
  exact ⟨rfl, rfl, rfl, rfl, Nat.le_refl _, fun _ _ => rfl⟩
set_option maxHeartbeats 3200000 in
theorem checkAlone_11 (cb tb sb : Nat) (N : ByteArray → Nat) (l mk p : Nat) (b off : Nat) (it : It) (nm a : ByteArray) (n ax tk : Int) (tn : ByteArray) (sl : Option Addr) (m cap : Nat) (S : List ByteArray) (w : World) (h : CkS w cb tb sb N l mk p) (hN : ∀ x, N x = cntS S x) (hT : Tabs w) (hb : b < w.heap.size)
    (hh : HeadAt w b off 11 it nm a n ax tk tn (.slice sl m cap)) (hc : cntF 11 m = 0) :
    Calls Tryz.prog 104 #[.pointer (some ⟨cb, 0, none⟩), .pointer (some ⟨b, off, none⟩)] w fun e w' => e = .returned (.int .i64 (aloneF S 11 it nm a n ax tk m)) ∧ Below w.heap.size w w' := by
  have HA : Hid (∀ W, Calls Tryz.prog 132 #[.int .i64 11, .int .i64 m] W fun e w' => e = .returned (.int .i64 0) ∧ w' = W) := fun W => by
    have h1 := checkArgs_is 11 m W
    rw [hc] at h1
    exact h1
  obtain ⟨c0, c1, c2, c3, c4, f2, f3, f4⟩ := h.cells
  have d0 := hh.c0
  have d1 := hh.c1
  have d2 := hh.c2
  have d3 := hh.c3
  have d4 := hh.c4
  have d5 := hh.c5
  have d6 := hh.c6
  have d7 := hh.c7
  have d8 := hh.c8
  have d9 := hh.c9
  have d10 := hh.c10
  have hcb := h.lt
  have HR : Hid (aloneF S 11 it nm a n ax tk m = 0) := (if_pos hc).trans (by simp [kindF])
  rw [HR.out]
  clear h hh HR c2 c3 c4 f2 f3 f4
  go_enter Tryz.func104, Tryz.ntmps104
  go_upto_region 1 with fail
  go_quiet ((go_at_call 132; exact Calls.quiet_of_same (HA.out _)))
  go_wp2
  go_ret
  exact ⟨rfl, rfl, rfl, rfl, Nat.le_refl _, fun _ _ => rfl⟩
set_option maxHeartbeats 3200000 in
theorem checkAlone_1 (cb tb sb : Nat) (N : ByteArray → Nat) (l mk p : Nat) (b off : Nat) (it : It) (nm a : ByteArray) (n ax tk : Int) (tn : ByteArray) (sl : Option Addr) (m cap : Nat) (S : List ByteArray) (w : World) (h : CkS w cb tb sb N l mk p) (hN : ∀ x, N x = cntS S x) (hT : Tabs w) (hb : b < w.heap.size)
    (hh : HeadAt w b off 1 it nm a n ax tk tn (.slice sl m cap)) (hc : cntF 1 m = 0) :
    Calls Tryz.prog 104 #[.pointer (some ⟨cb, 0, none⟩), .pointer (some ⟨b, off, none⟩)] w fun e w' => e = .returned (.int .i64 (aloneF S 1 it nm a n ax tk m)) ∧ Below w.heap.size w w' := by
  have HA : Hid (∀ W, Calls Tryz.prog 132 #[.int .i64 1, .int .i64 m] W fun e w' => e = .returned (.int .i64 0) ∧ w' = W) := fun W => by
    have h1 := checkArgs_is 1 m W
    rw [hc] at h1
    exact h1
  have HL : Hid (∀ W, Below w.heap.size w W → Calls Tryz.prog 76 #[.agg #[.int .i64 it.kind, .int .i64 it.n, .string it.s]] W fun e w' => e = .returned (.int .i64 (litF it)) ∧ Below W.heap.size W w') := fun W hW => checkLit_is it W hh.s1 (Utf8Tabs_below hT hW)
  obtain ⟨c0, c1, c2, c3, c4, f2, f3, f4⟩ := h.cells
  have d0 := hh.c0
  have d1 := hh.c1
  have d2 := hh.c2
  have d3 := hh.c3
  have d4 := hh.c4
  have d5 := hh.c5
  have d6 := hh.c6
  have d7 := hh.c7
  have d8 := hh.c8
  have d9 := hh.c9
  have d10 := hh.c10
  have hcb := h.lt
  have HR : Hid (aloneF S 1 it nm a n ax tk m = litF it) := (if_pos hc).trans (by simp [kindF])
  rw [HR.out]
  clear h hh HR c2 c3 c4 f2 f3 f4
  generalize litF it = R at *
  generalize it.kind = ik at *
  generalize it.n = jn at *
  generalize it.s = is at *
  go_enter Tryz.func104, Tryz.ntmps104
  go_upto_region 1 with fail
  go_quiet ((go_at_call 132; exact Calls.quiet_of_same (HA.out _)))
  go_wp2_with (go_at_call 76; refine Calls.mono (HL.out _ ?_) ?_; (· exact ⟨rfl, rfl, rfl, Nat.le_refl _, fun _ _ => rfl⟩); rintro e w1 ⟨rfl, hb1⟩; have HB1 : Hid (Below w.heap.size w w1) := (by exact ⟨hb1.os, hb1.tape, hb1.output, hb1.size, hb1.block⟩); clear hb1)
  go_ret
  exact ⟨rfl, HB1.out⟩
set_option maxHeartbeats 3200000 in
theorem checkAlone_2 (cb tb sb : Nat) (N : ByteArray → Nat) (l mk p : Nat) (b off : Nat) (it : It) (nm a : ByteArray) (n ax tk : Int) (tn : ByteArray) (sl : Option Addr) (m cap : Nat) (S : List ByteArray) (w : World) (h : CkS w cb tb sb N l mk p) (hN : ∀ x, N x = cntS S x) (hT : Tabs w) (hb : b < w.heap.size)
    (hh : HeadAt w b off 2 it nm a n ax tk tn (.slice sl m cap)) (hc : cntF 2 m = 0) :
    Calls Tryz.prog 104 #[.pointer (some ⟨cb, 0, none⟩), .pointer (some ⟨b, off, none⟩)] w fun e w' => e = .returned (.int .i64 (aloneF S 2 it nm a n ax tk m)) ∧ Below w.heap.size w w' := by
  have HA : Hid (∀ W, Calls Tryz.prog 132 #[.int .i64 2, .int .i64 m] W fun e w' => e = .returned (.int .i64 0) ∧ w' = W) := fun W => by
    have h1 := checkArgs_is 2 m W
    rw [hc] at h1
    exact h1
  have HS : Hid (∀ W : World, W.heap = w.heap → Calls Tryz.prog 77 #[.map (some sb), .string nm] W fun e w' => e = .returned (.int .i64 (if N nm = 0 then 6 else 0)) ∧ w' = W) := fun W hW => scheck_is sb N nm W hh.s2 (h.sc.keep (by rw [hW]))
  obtain ⟨c0, c1, c2, c3, c4, f2, f3, f4⟩ := h.cells
  have d0 := hh.c0
  have d1 := hh.c1
  have d2 := hh.c2
  have d3 := hh.c3
  have d4 := hh.c4
  have d5 := hh.c5
  have d6 := hh.c6
  have d7 := hh.c7
  have d8 := hh.c8
  have d9 := hh.c9
  have d10 := hh.c10
  have hcb := h.lt
  have HR : Hid (aloneF S 2 it nm a n ax tk m = (if N nm = 0 then 6 else 0)) := show aloneF S 2 it nm a n ax tk m = (if N nm = 0 then 6 else 0) by
    rw [show aloneF S 2 it nm a n ax tk m = (if hasB S nm = true then 0 else 6) from (if_pos hc).trans (by simp [kindF])]
    have h1 := cntS_has S nm
    rw [← hN nm] at h1
    by_cases h2 : N nm = 0
    · rw [if_pos h2, if_neg (fun h3 => h1.1 h3 h2)]
    · rw [if_neg h2, if_pos (h1.2 h2)]
  rw [HR.out]
  clear h hh HR c2 c3 c4 f2 f3 f4
  generalize (if N nm = 0 then (6 : Int) else 0) = R at *
  go_enter Tryz.func104, Tryz.ntmps104
  go_upto_region 1 with fail
  go_quiet ((go_at_call 132; exact Calls.quiet_of_same (HA.out _)))
  obtain ⟨W, hW⟩ : ∃ W, W = w.drewN nq := ⟨_, rfl⟩
  have hWh : W.heap = w.heap := by rw [hW]; rfl
  have hWc : ∀ x, W.cell? x = w.cell? x := fun x => by rw [hW]; rfl
  rw [← hWc] at c0 c1 d0 d1 d2 d3 d4 d5 d6 d7 d8 d9 d10
  rw [← hWh] at hcb hb
  rw [← hW]
  have HW : Hid (W = w.drewN nq) := hW
  clear hWc hW
  go_upto_region 8 with fail
  go_quiet ((go_at_call 77; exact Calls.quiet_of_same (HS.out _ (by exact hWh))))
  go_wp2
  go_ret
  have hW := HW.out
  subst hW
  exact ⟨rfl, rfl, rfl, rfl, Nat.le_refl _, fun _ _ => rfl⟩
end Go.Proofs.YtcbpjgnbdpfiiaaGreatDoor
set_option linter.unusedVariables false
namespace Go.Proofs.YtcbpjgnbdpfiiaaGreatDoor
set_option maxRecDepth 100000
open Go.RowKit Go.WideShapes

set_option maxHeartbeats 3200000 in
theorem checkAlone_4 (cb tb sb : Nat) (N : ByteArray → Nat) (l mk p : Nat) (b off : Nat) (it : It) (nm a : ByteArray) (n ax tk : Int) (tn : ByteArray) (sl : Option Addr) (m cap : Nat) (S : List ByteArray) (w : World) (h : CkS w cb tb sb N l mk p) (hN : ∀ x, N x = cntS S x) (hT : Tabs w) (hb : b < w.heap.size)
    (hh : HeadAt w b off 4 it nm a n ax tk tn (.slice sl m cap)) (hc : cntF 4 m = 0) :
    Calls Tryz.prog 104 #[.pointer (some ⟨cb, 0, none⟩), .pointer (some ⟨b, off, none⟩)] w fun e w' => e = .returned (.int .i64 (aloneF S 4 it nm a n ax tk m)) ∧ Below w.heap.size w w' := by
  have HA : Hid (∀ W, Calls Tryz.prog 132 #[.int .i64 4, .int .i64 m] W fun e w' => e = .returned (.int .i64 0) ∧ w' = W) := fun W => by
    have h1 := checkArgs_is 4 m W
    rw [hc] at h1
    exact h1
  have HO : Hid (∀ W : World, W.heap = w.heap → Calls Tryz.prog 108 #[.pointer (some ⟨b, off, none⟩)] W fun e w' => e = .returned (.string (atN 4 a)) ∧ w' = W) := fun W hW => atOf_is b off 4 it nm a n ax tk tn _ W (hh.keep (by rw [hW]))
  have HM : Hid (∀ W : World, Calls Tryz.prog 82 #[.string nm, .string (atN 4 a)] W fun e w' => e = .returned (.int .i64 (namesF nm (atN 4 a))) ∧ w' = W) := fun W => checkNames_is nm (atN 4 a) W hh.s2 (by unfold atN; split; (· exact Nat.zero_le _); exact hh.s3)
  obtain ⟨c0, c1, c2, c3, c4, f2, f3, f4⟩ := h.cells
  have d0 := hh.c0
  have d1 := hh.c1
  have d2 := hh.c2
  have d3 := hh.c3
  have d4 := hh.c4
  have d5 := hh.c5
  have d6 := hh.c6
  have d7 := hh.c7
  have d8 := hh.c8
  have d9 := hh.c9
  have d10 := hh.c10
  have hcb := h.lt
  have HR : Hid (aloneF S 4 it nm a n ax tk m = namesF nm (atN 4 a)) := (if_pos hc).trans (by simp [kindF])
  rw [HR.out]
  clear h hh HR c2 c3 c4 f2 f3 f4
  generalize namesF nm (atN 4 a) = R at *
  generalize atN 4 a = at' at *
  go_enter Tryz.func104, Tryz.ntmps104
  go_upto_region 1 with fail
  go_quiet ((go_at_call 132; exact Calls.quiet_of_same (HA.out _)))
  obtain ⟨W, hW⟩ : ∃ W, W = w.drewN nq := ⟨_, rfl⟩
  have hWh : W.heap = w.heap := by rw [hW]; rfl
  have hWc : ∀ x, W.cell? x = w.cell? x := fun x => by rw [hW]; rfl
  rw [← hWc] at c0 c1 d0 d1 d2 d3 d4 d5 d6 d7 d8 d9 d10
  rw [← hWh] at hcb hb
  rw [← hW]
  have HW : Hid (W = w.drewN nq) := hW
  clear hWc hW
  go_upto_region 12 with fail
  go_quiet ((first | (go_at_call 108; exact Calls.quiet_of_same (HO.out _ (by exact hWh))) | (go_at_call 82; exact Calls.quiet_of_same (HM.out _))))
  go_wp2
  go_ret
  have hW := HW.out
  subst hW
  exact ⟨rfl, rfl, rfl, rfl, Nat.le_refl _, fun _ _ => rfl⟩
set_option maxHeartbeats 3200000 in
theorem checkAlone_5 (cb tb sb : Nat) (N : ByteArray → Nat) (l mk p : Nat) (b off : Nat) (it : It) (nm a : ByteArray) (n ax tk : Int) (tn : ByteArray) (sl : Option Addr) (m cap : Nat) (S : List ByteArray) (w : World) (h : CkS w cb tb sb N l mk p) (hN : ∀ x, N x = cntS S x) (hT : Tabs w) (hb : b < w.heap.size)
    (hh : HeadAt w b off 5 it nm a n ax tk tn (.slice sl m cap)) (hc : cntF 5 m = 0) :
    Calls Tryz.prog 104 #[.pointer (some ⟨cb, 0, none⟩), .pointer (some ⟨b, off, none⟩)] w fun e w' => e = .returned (.int .i64 (aloneF S 5 it nm a n ax tk m)) ∧ Below w.heap.size w w' := by
  have HA : Hid (∀ W, Calls Tryz.prog 132 #[.int .i64 5, .int .i64 m] W fun e w' => e = .returned (.int .i64 0) ∧ w' = W) := fun W => by
    have h1 := checkArgs_is 5 m W
    rw [hc] at h1
    exact h1
  have HO : Hid (∀ W : World, W.heap = w.heap → Calls Tryz.prog 108 #[.pointer (some ⟨b, off, none⟩)] W fun e w' => e = .returned (.string (atN 5 a)) ∧ w' = W) := fun W hW => atOf_is b off 5 it nm a n ax tk tn _ W (hh.keep (by rw [hW]))
  have HM : Hid (∀ W : World, Calls Tryz.prog 82 #[.string nm, .string (atN 5 a)] W fun e w' => e = .returned (.int .i64 (namesF nm (atN 5 a))) ∧ w' = W) := fun W => checkNames_is nm (atN 5 a) W hh.s2 (by unfold atN; split; (· exact Nat.zero_le _); exact hh.s3)
  obtain ⟨c0, c1, c2, c3, c4, f2, f3, f4⟩ := h.cells
  have d0 := hh.c0
  have d1 := hh.c1
  have d2 := hh.c2
  have d3 := hh.c3
  have d4 := hh.c4
  have d5 := hh.c5
  have d6 := hh.c6
  have d7 := hh.c7
  have d8 := hh.c8
  have d9 := hh.c9
  have d10 := hh.c10
  have hcb := h.lt
  have HR : Hid (aloneF S 5 it nm a n ax tk m = namesF nm (atN 5 a)) := (if_pos hc).trans (by simp [kindF])
  rw [HR.out]
  clear h hh HR c2 c3 c4 f2 f3 f4
  generalize namesF nm (atN 5 a) = R at *
  generalize atN 5 a = at' at *
  go_enter Tryz.func104, Tryz.ntmps104
  go_upto_region 1 with fail
  go_quiet ((go_at_call 132; exact Calls.quiet_of_same (HA.out _)))
  obtain ⟨W, hW⟩ : ∃ W, W = w.drewN nq := ⟨_, rfl⟩
  have hWh : W.heap = w.heap := by rw [hW]; rfl
  have hWc : ∀ x, W.cell? x = w.cell? x := fun x => by rw [hW]; rfl
  rw [← hWc] at c0 c1 d0 d1 d2 d3 d4 d5 d6 d7 d8 d9 d10
  rw [← hWh] at hcb hb
  rw [← hW]
  have HW : Hid (W = w.drewN nq) := hW
  clear hWc hW
  go_upto_region 12 with fail
  go_quiet ((first | (go_at_call 108; exact Calls.quiet_of_same (HO.out _ (by exact hWh))) | (go_at_call 82; exact Calls.quiet_of_same (HM.out _))))
  go_wp2
  go_ret
  have hW := HW.out
  subst hW
  exact ⟨rfl, rfl, rfl, rfl, Nat.le_refl _, fun _ _ => rfl⟩
set_option maxHeartbeats 3200000 in
theorem checkAlone_6 (cb tb sb : Nat) (N : ByteArray → Nat) (l mk p : Nat) (b off : Nat) (it : It) (nm a : ByteArray) (n ax tk : Int) (tn : ByteArray) (sl : Option Addr) (m cap : Nat) (S : List ByteArray) (w : World) (h : CkS w cb tb sb N l mk p) (hN : ∀ x, N x = cntS S x) (hT : Tabs w) (hb : b < w.heap.size)
    (hh : HeadAt w b off 6 it nm a n ax tk tn (.slice sl m cap)) (hc : cntF 6 m = 0) :
    Calls Tryz.prog 104 #[.pointer (some ⟨cb, 0, none⟩), .pointer (some ⟨b, off, none⟩)] w fun e w' => e = .returned (.int .i64 (aloneF S 6 it nm a n ax tk m)) ∧ Below w.heap.size w w' := by
  have HA : Hid (∀ W, Calls Tryz.prog 132 #[.int .i64 6, .int .i64 m] W fun e w' => e = .returned (.int .i64 0) ∧ w' = W) := fun W => by
    have h1 := checkArgs_is 6 m W
    rw [hc] at h1
    exact h1
  have HO : Hid (∀ W : World, W.heap = w.heap → Calls Tryz.prog 108 #[.pointer (some ⟨b, off, none⟩)] W fun e w' => e = .returned (.string (atN 6 a)) ∧ w' = W) := fun W hW => atOf_is b off 6 it nm a n ax tk tn _ W (hh.keep (by rw [hW]))
  have HM : Hid (∀ W : World, Calls Tryz.prog 82 #[.string nm, .string (atN 6 a)] W fun e w' => e = .returned (.int .i64 (namesF nm (atN 6 a))) ∧ w' = W) := fun W => checkNames_is nm (atN 6 a) W hh.s2 (by unfold atN; split; (· exact Nat.zero_le _); exact hh.s3)
  obtain ⟨c0, c1, c2, c3, c4, f2, f3, f4⟩ := h.cells
  have d0 := hh.c0
  have d1 := hh.c1
  have d2 := hh.c2
  have d3 := hh.c3
  have d4 := hh.c4
  have d5 := hh.c5
  have d6 := hh.c6
  have d7 := hh.c7
  have d8 := hh.c8
  have d9 := hh.c9
  have d10 := hh.c10
  have hcb := h.lt
  have HR : Hid (aloneF S 6 it nm a n ax tk m = namesF nm (atN 6 a)) := (if_pos hc).trans (by simp [kindF])
  rw [HR.out]
  clear h hh HR c2 c3 c4 f2 f3 f4
  generalize namesF nm (atN 6 a) = R at *
  generalize atN 6 a = at' at *
  go_enter Tryz.func104, Tryz.ntmps104
  go_upto_region 1 with fail
  go_quiet ((go_at_call 132; exact Calls.quiet_of_same (HA.out _)))
  obtain ⟨W, hW⟩ : ∃ W, W = w.drewN nq := ⟨_, rfl⟩
  have hWh : W.heap = w.heap := by rw [hW]; rfl
  have hWc : ∀ x, W.cell? x = w.cell? x := fun x => by rw [hW]; rfl
  rw [← hWc] at c0 c1 d0 d1 d2 d3 d4 d5 d6 d7 d8 d9 d10
  rw [← hWh] at hcb hb
  rw [← hW]
  have HW : Hid (W = w.drewN nq) := hW
  clear hWc hW
  go_upto_region 12 with fail
  go_quiet ((first | (go_at_call 108; exact Calls.quiet_of_same (HO.out _ (by exact hWh))) | (go_at_call 82; exact Calls.quiet_of_same (HM.out _))))
  go_wp2
  go_ret
  have hW := HW.out
  subst hW
  exact ⟨rfl, rfl, rfl, rfl, Nat.le_refl _, fun _ _ => rfl⟩
end Go.Proofs.YtcbpjgnbdpfiiaaGreatDoor
set_option linter.unusedVariables false
namespace Go.Proofs.YtcbpjgnbdpfiiaaGreatDoor
set_option maxRecDepth 100000
open Go.RowKit Go.WideShapes

set_option maxHeartbeats 3200000 in
theorem checkAlone_8 (cb tb sb : Nat) (N : ByteArray → Nat) (l mk p : Nat) (b off : Nat) (it : It) (nm a : ByteArray) (n ax tk : Int) (tn : ByteArray) (sl : Option Addr) (m cap : Nat) (S : List ByteArray) (w : World) (h : CkS w cb tb sb N l mk p) (hN : ∀ x, N x = cntS S x) (hT : Tabs w) (hb : b < w.heap.size)
    (hh : HeadAt w b off 8 it nm a n ax tk tn (.slice sl m cap)) (hc : cntF 8 m = 0) :
    Calls Tryz.prog 104 #[.pointer (some ⟨cb, 0, none⟩), .pointer (some ⟨b, off, none⟩)] w fun e w' => e = .returned (.int .i64 (aloneF S 8 it nm a n ax tk m)) ∧ Below w.heap.size w w' := by
  have HA : Hid (∀ W, Calls Tryz.prog 132 #[.int .i64 8, .int .i64 m] W fun e w' => e = .returned (.int .i64 0) ∧ w' = W) := fun W => by
    have h1 := checkArgs_is 8 m W
    rw [hc] at h1
    exact h1
  have HX : Hid (∀ W : World, (∀ c, c < w.heap.size → W.heap[c]? = w.heap[c]?) → Calls Tryz.prog 80 #[.map (some tb), .string nm, .int .i64 m] W fun e w' => e = .returned (.int .i64 (callF nm m)) ∧ Below W.heap.size W w') := fun W hW => tcheck_is tb nm m W hh.s2 (h.tab.keep (hW _ h.tab.lt))
  obtain ⟨c0, c1, c2, c3, c4, f2, f3, f4⟩ := h.cells
  have d0 := hh.c0
  have d1 := hh.c1
  have d2 := hh.c2
  have d3 := hh.c3
  have d4 := hh.c4
  have d5 := hh.c5
  have d6 := hh.c6
  have d7 := hh.c7
  have d8 := hh.c8
  have d9 := hh.c9
  have d10 := hh.c10
  have hcb := h.lt
  have HR : Hid (aloneF S 8 it nm a n ax tk m = callF nm m) := (if_pos hc).trans (by simp [kindF])
  rw [HR.out]
  clear h hh HR c2 c3 c4 f2 f3 f4
  generalize callF nm m = R at *
  go_enter Tryz.func104, Tryz.ntmps104
  go_upto_region 1 with fail
  go_quiet ((go_at_call 132; exact Calls.quiet_of_same (HA.out _)))
  go_upto_region 14 with fail
  go_region_with (go_at_call 80; refine Calls.mono (HX.out _ ?_) ?_; (· exact fun c hc => rfl); rintro e w1 ⟨rfl, hb1⟩; have HB1 : Hid (Below w.heap.size w w1) := (by exact ⟨hb1.os, hb1.tape, hb1.output, hb1.size, hb1.block⟩); clear hb1)
  all_goals
    go_wp2
    go_ret
    exact ⟨rfl, HB1.out⟩
end Go.Proofs.YtcbpjgnbdpfiiaaGreatDoor
set_option linter.unusedVariables false
namespace Go.Proofs.YtcbpjgnbdpfiiaaGreatDoor
set_option maxRecDepth 100000
open Go.RowKit Go.WideShapes

set_option maxHeartbeats 3200000 in
theorem checkAlone_9 (cb tb sb : Nat) (N : ByteArray → Nat) (l mk p : Nat) (b off : Nat) (it : It) (nm a : ByteArray) (n ax tk : Int) (tn : ByteArray) (sl : Option Addr) (m cap : Nat) (S : List ByteArray) (w : World) (h : CkS w cb tb sb N l mk p) (hN : ∀ x, N x = cntS S x) (hT : Tabs w) (hb : b < w.heap.size)
    (hh : HeadAt w b off 9 it nm a n ax tk tn (.slice sl m cap)) (hc : cntF 9 m = 0) :
    Calls Tryz.prog 104 #[.pointer (some ⟨cb, 0, none⟩), .pointer (some ⟨b, off, none⟩)] w fun e w' => e = .returned (.int .i64 (aloneF S 9 it nm a n ax tk m)) ∧ Below w.heap.size w w' := by
  have HA : Hid (∀ W, Calls Tryz.prog 132 #[.int .i64 9, .int .i64 m] W fun e w' => e = .returned (.int .i64 0) ∧ w' = W) := fun W => by
    have h1 := checkArgs_is 9 m W
    rw [hc] at h1
    exact h1
  have HX : Hid (∀ W : World, True → Calls Tryz.prog 78 #[.int .i64 ax, .agg #[.int .i64 tk, .string tn]] W fun e w' => e = .returned (.int .i64 (stepF ax tk)) ∧ Below W.heap.size W w') := fun W _ => checkStep_is ax tk tn W
  obtain ⟨c0, c1, c2, c3, c4, f2, f3, f4⟩ := h.cells
  have d0 := hh.c0
  have d1 := hh.c1
  have d2 := hh.c2
  have d3 := hh.c3
  have d4 := hh.c4
  have d5 := hh.c5
  have d6 := hh.c6
  have d7 := hh.c7
  have d8 := hh.c8
  have d9 := hh.c9
  have d10 := hh.c10
  have hcb := h.lt
  have HR : Hid (aloneF S 9 it nm a n ax tk m = stepF ax tk) := (if_pos hc).trans (by simp [kindF])
  rw [HR.out]
  clear h hh HR c2 c3 c4 f2 f3 f4
  generalize stepF ax tk = R at *
  go_enter Tryz.func104, Tryz.ntmps104
  go_upto_region 1 with fail
  go_quiet ((go_at_call 132; exact Calls.quiet_of_same (HA.out _)))
  go_upto_region 16 with fail
  go_region_with (go_at_call 78; refine Calls.mono (HX.out _ ?_) ?_; (· exact trivial); rintro e w1 ⟨rfl, hb1⟩; have HB1 : Hid (Below w.heap.size w w1) := (by exact ⟨hb1.os, hb1.tape, hb1.output, hb1.size, hb1.block⟩); clear hb1)
  all_goals
    go_wp2
    go_ret
    exact ⟨rfl, HB1.out⟩
set_option maxHeartbeats 3200000 in
theorem checkAlone_10 (cb tb sb : Nat) (N : ByteArray → Nat) (l mk p : Nat) (b off : Nat) (it : It) (nm a : ByteArray) (n ax tk : Int) (tn : ByteArray) (sl : Option Addr) (m cap : Nat) (S : List ByteArray) (w : World) (h : CkS w cb tb sb N l mk p) (hN : ∀ x, N x = cntS S x) (hT : Tabs w) (hb : b < w.heap.size)
    (hh : HeadAt w b off 10 it nm a n ax tk tn (.slice sl m cap)) (hc : cntF 10 m = 0) :
    Calls Tryz.prog 104 #[.pointer (some ⟨cb, 0, none⟩), .pointer (some ⟨b, off, none⟩)] w fun e w' => e = .returned (.int .i64 (aloneF S 10 it nm a n ax tk m)) ∧ Below w.heap.size w w' := by
  have HA : Hid (∀ W, Calls Tryz.prog 132 #[.int .i64 10, .int .i64 m] W fun e w' => e = .returned (.int .i64 0) ∧ w' = W) := fun W => by
    have h1 := checkArgs_is 10 m W
    rw [hc] at h1
    exact h1
  have HX : Hid (∀ W : World, True → Calls Tryz.prog 79 #[.int .i64 n, .string nm] W fun e w' => e = .returned (.int .i64 (makeF n nm)) ∧ Below W.heap.size W w') := fun W _ => checkMake_is n nm W hh.s2
  obtain ⟨c0, c1, c2, c3, c4, f2, f3, f4⟩ := h.cells
  have d0 := hh.c0
  have d1 := hh.c1
  have d2 := hh.c2
  have d3 := hh.c3
  have d4 := hh.c4
  have d5 := hh.c5
  have d6 := hh.c6
  have d7 := hh.c7
  have d8 := hh.c8
  have d9 := hh.c9
  have d10 := hh.c10
  have hcb := h.lt
  have HR : Hid (aloneF S 10 it nm a n ax tk m = makeF n nm) := (if_pos hc).trans (by simp [kindF])
  rw [HR.out]
  clear h hh HR c2 c3 c4 f2 f3 f4
  generalize makeF n nm = R at *
  go_enter Tryz.func104, Tryz.ntmps104
  go_upto_region 1 with fail
  go_quiet ((go_at_call 132; exact Calls.quiet_of_same (HA.out _)))
  go_upto_region 18 with fail
  go_region_with (go_at_call 79; refine Calls.mono (HX.out _ ?_) ?_; (· exact trivial); rintro e w1 ⟨rfl, hb1⟩; have HB1 : Hid (Below w.heap.size w w1) := (by exact ⟨hb1.os, hb1.tape, hb1.output, hb1.size, hb1.block⟩); clear hb1)
  all_goals
    go_wp2
    go_ret
    exact ⟨rfl, HB1.out⟩
end Go.Proofs.YtcbpjgnbdpfiiaaGreatDoor
set_option linter.unusedVariables false
namespace Go.Proofs.YtcbpjgnbdpfiiaaGreatDoor
set_option maxRecDepth 100000
open Go.RowKit Go.WideShapes

theorem checkAlone_is (cb tb sb : Nat) (N : ByteArray → Nat) (l mk p : Nat) (b off : Nat) (k : Int) (it : It) (nm a : ByteArray) (n ax tk : Int) (tn : ByteArray) (sl : Option Addr) (m cap : Nat) (S : List ByteArray) (w : World) (h : CkS w cb tb sb N l mk p) (hN : ∀ x, N x = cntS S x) (hT : Tabs w) (hb : b < w.heap.size)
    (hh : HeadAt w b off k it nm a n ax tk tn (.slice sl m cap)) :
    Calls Tryz.prog 104 #[.pointer (some ⟨cb, 0, none⟩), .pointer (some ⟨b, off, none⟩)] w fun e w' => e = .returned (.int .i64 (aloneF S k it nm a n ax tk m)) ∧ Below w.heap.size w w' := by
  by_cases hc : cntF k m = 0
  · by_cases h1 : k = 1
    · subst h1; exact checkAlone_1 cb tb sb N l mk p b off it nm a n ax tk tn sl m cap S w h hN hT hb hh hc
    by_cases h2 : k = 2
    · subst h2; exact checkAlone_2 cb tb sb N l mk p b off it nm a n ax tk tn sl m cap S w h hN hT hb hh hc
    by_cases h4 : k = 4
    · subst h4; exact checkAlone_4 cb tb sb N l mk p b off it nm a n ax tk tn sl m cap S w h hN hT hb hh hc
    by_cases h5 : k = 5
    · subst h5; exact checkAlone_5 cb tb sb N l mk p b off it nm a n ax tk tn sl m cap S w h hN hT hb hh hc
    by_cases h6 : k = 6
    · subst h6; exact checkAlone_6 cb tb sb N l mk p b off it nm a n ax tk tn sl m cap S w h hN hT hb hh hc
    by_cases h8 : k = 8
    · subst h8; exact checkAlone_8 cb tb sb N l mk p b off it nm a n ax tk tn sl m cap S w h hN hT hb hh hc
    by_cases h9 : k = 9
    · subst h9; exact checkAlone_9 cb tb sb N l mk p b off it nm a n ax tk tn sl m cap S w h hN hT hb hh hc
    by_cases h10 : k = 10
    · subst h10; exact checkAlone_10 cb tb sb N l mk p b off it nm a n ax tk tn sl m cap S w h hN hT hb hh hc
    by_cases h3 : k = 3
    · subst h3; exact checkAlone_3 cb tb sb N l mk p b off it nm a n ax tk tn sl m cap S w h hN hT hb hh hc
    by_cases h7 : k = 7
    · subst h7; exact checkAlone_7 cb tb sb N l mk p b off it nm a n ax tk tn sl m cap S w h hN hT hb hh hc
    by_cases h11 : k = 11
    · subst h11; exact checkAlone_11 cb tb sb N l mk p b off it nm a n ax tk tn sl m cap S w h hN hT hb hh hc
    exfalso
    unfold cntF at hc
    rw [if_neg (by omega), if_neg (by omega), if_neg (by omega), if_neg (by omega), if_neg (by omega)] at hc
    omega
  · exact checkAlone_bad cb tb sb N l mk p b off k it nm a n ax tk tn sl m cap S w h hN hT hb hh hc
end Go.Proofs.YtcbpjgnbdpfiiaaGreatDoor
set_option linter.unusedVariables false
namespace Go.Proofs.YtcbpjgnbdpfiiaaGreatDoor
set_option maxRecDepth 100000
open Go.RowKit Go.WideShapes

/-- the tables stay, whatever lies behind B -/
def TB (B : Nat) (w : World) : Prop := ∀ W, Below B w W → Tabs W
theorem TB.below {B : Nat} {w w' : World} (h : TB B w) (hb : Below B w w') : TB B w' := fun W hW => h W (hb.trans hW)
/-- what a look at an expression tells, and leaves -/
def LookOk (B : Nat) (x : Ex) (S : List ByteArray) : Prop :=
  ∀ (w : World) (cb tb sb l mk p b off : Nat), CkS w cb tb sb (cntS S) l mk p → x.At w B b off → B ≤ cb → B ≤ sb → B ≤ w.heap.size → TB B w → l ≤ p → mk ≤ p → p + nodesX x ≤ 4294967296 → S.length + 2 * nodesX x ≤ 4294967296 →
    Calls Tryz.prog 56 #[.pointer (some ⟨cb, 0, none⟩), .pointer (some ⟨b, off, none⟩)] w fun e w' => e = .returned (.int .i64 (exF x S)) ∧
      (∃ l' mk' p', CkS w' cb tb sb (cntS S) l' mk' p' ∧ (exF x S = 0 → l' = l + cntX loopB x ∧ mk' = mk + cntX makeB x ∧ p' = p + nodesX x)) ∧ Below B w w'
set_option maxHeartbeats 1600000 in
theorem lookAll_is (B : Nat) (S : List ByteArray) (A : Nat → Ex) (m cap : Nat) (sl : Option Addr) (w : World) (cb tb sb l mk p : Nat) (ih : ∀ i, i < m → LookOk B (A i) S) (hcap : m ≤ cap) (hcm : cap ≤ maxLen)
    (hsl : 0 < m → ∃ b' off', sl = some ⟨b', off', none⟩ ∧ b' < B ∧ ∀ i, i < m → (A i).At w B b' (off' + i * 11)) (hS : CkS w cb tb sb (cntS S) l mk p) (hcb : B ≤ cb) (hsb : B ≤ sb) (hBw : B ≤ w.heap.size) (hT : TB B w) (hl : l ≤ p) (hmk : mk ≤ p) (hp : p + sumTo (fun i => nodesX (A i)) m ≤ 4294967296) (hSl : S.length + 2 * sumTo (fun i => nodesX (A i)) m ≤ 4294967296) :
    Calls Tryz.prog 107 #[.pointer (some ⟨cb, 0, none⟩), .slice sl m cap] w fun e w' => e = .returned (.int .i64 (firstE (fun i => exF (A i) S) m)) ∧
      (∃ l' mk' p', CkS w' cb tb sb (cntS S) l' mk' p' ∧ (firstE (fun i => exF (A i) S) m = 0 → l' = l + sumTo (fun i => cntX loopB (A i)) m ∧ mk' = mk + sumTo (fun i => cntX makeB (A i)) m ∧ p' = p + sumTo (fun i => nodesX (A i)) m)) ∧ Below B w w' := by
  have HIH : Hid (∀ i, i < m → LookOk B (A i) S) := ih
  have HSL : Hid (0 < m → ∃ b' off', sl = some ⟨b', off', none⟩ ∧ b' < B ∧ ∀ i, i < m → (A i).At w B b' (off' + i * 11)) := hsl
  have HS : Hid (CkS w cb tb sb (cntS S) l mk p) := hS
  have HT : Hid (TB B w) := hT
  have HLP : Hid (∀ k, k ≤ m → l + sumTo (fun i => cntX loopB (A i)) k ≤ p + sumTo (fun i => nodesX (A i)) k ∧ mk + sumTo (fun i => cntX makeB (A i)) k ≤ p + sumTo (fun i => nodesX (A i)) k) := fun k _ => by
    have h1 := sumTo_le (f := fun i => cntX loopB (A i)) (g := fun i => nodesX (A i)) (fun i => cntX_le loopB (A i)) k
    have h2 := sumTo_le (f := fun i => cntX makeB (A i)) (g := fun i => nodesX (A i)) (fun i => cntX_le makeB (A i)) k
    constructor <;> omega
  unfold maxLen at hcm
  clear ih hsl hS hT
  go_enter Tryz.func107, Tryz.ntmps107
  go_wp2
  go_loopw [9] (fun q wr => ∃ k : Nat, k ≤ m ∧ q = .int .i64 k ∧ firstE (fun i => exF (A i) S) k = 0 ∧ CkS wr cb tb sb (cntS S) (l + sumTo (fun i => cntX loopB (A i)) k) (mk + sumTo (fun i => cntX makeB (A i)) k) (p + sumTo (fun i => nodesX (A i)) k) ∧ Below B w wr) (fun q _ => m - (intOf q).toNat)
  case atStart => exact ⟨0, Nat.zero_le _, rfl, rfl, HS.out, Below.refl _ _⟩
  case round =>
    obtain ⟨k, hk, rfl, hz, hck, hbr⟩ := hrel
    have HZ : Hid (firstE (fun i => exF (A i) S) k = 0) := hz
    have HB : Hid (Below B w wr) := hbr
    by_cases hlt : k < m
    · obtain ⟨b', off', rfl, hb', hA⟩ := HSL.out (by omega)
      have hkm : (k : Int) < (m : Int) := by omega
      have hmono := sumTo_part (fun i => nodesX (A i)) hlt
      have hlp := HLP.out k hk
      have CL : Hid (Calls Tryz.prog 56 #[.pointer (some ⟨cb, 0, none⟩), .pointer (some ⟨b', off' + k * 11, none⟩)] wr fun e w' => e = .returned (.int .i64 (exF (A k) S)) ∧
        (∃ l' mk' p', CkS w' cb tb sb (cntS S) l' mk' p' ∧ (exF (A k) S = 0 → l' = l + sumTo (fun i => cntX loopB (A i)) k + cntX loopB (A k) ∧ mk' = mk + sumTo (fun i => cntX makeB (A i)) k + cntX makeB (A k) ∧ p' = p + sumTo (fun i => nodesX (A i)) k + nodesX (A k))) ∧ Below B wr w') :=
        HIH.out k hlt wr cb tb sb _ _ _ b' (off' + k * 11) hck ((hA k hlt).below hbr) hcb hsb (Nat.le_trans hBw hbr.size) (HT.out.below hbr) hlp.1 hlp.2 (by omega) (by omega)
      have hbB : b' < wr.heap.size := Nat.lt_of_lt_of_le hb' (Nat.le_trans hBw hbr.size)
      have HSU : Hid (firstE (fun i => exF (A i) S) (k + 1) = if firstE (fun i => exF (A i) S) k = 0 then exF (A k) S else firstE (fun i => exF (A i) S) k) := firstE_succ _ k
      have HAT : Hid (exF (A k) S ≠ 0 → firstE (fun i => exF (A i) S) m = exF (A k) S) := fun h => firstE_at hlt HZ.out h
      clear hck hbr hz hA hmono hlp
      by_cases he : exF (A k) S = 0
      · rw [he] at CL
        go_wp2_with (go_at_call 56; refine CL.out.mono ?_; rintro e w1 ⟨rfl, ⟨l1, m1, p1, hc1, he1⟩, hb1⟩; obtain ⟨q1, q2, q3⟩ := he1 rfl; subst q1 q2 q3; have HC1 : Hid (CkS w1 cb tb sb (cntS S) (l + sumTo (fun i => cntX loopB (A i)) k + cntX loopB (A k)) (mk + sumTo (fun i => cntX makeB (A i)) k + cntX makeB (A k)) (p + sumTo (fun i => nodesX (A i)) k + nodesX (A k))) := hc1; have HB1 : Hid (Below B wr w1) := hb1; clear hc1 hb1 he1)
        go_roundw
        case rel => exact ⟨k + 1, by omega, by go_num, by rw [HSU.out, if_pos HZ.out]; exact he, by simp only [sumTo, ← Nat.add_assoc]; exact HC1.out, HB.out.trans HB1.out⟩
        case measure => simp [intOf]; omega
      · generalize exF (A k) S = R at *
        have he2 : (R == 0) = false := by simpa using he
        have he3 : (R != 0) = true := by simpa using he
        go_wp2_with (go_at_call 56; refine CL.out.mono ?_; rintro e w1 ⟨rfl, ⟨l1, m1, p1, hc1, he1⟩, hb1⟩; have HC1 : Hid (CkS w1 cb tb sb (cntS S) l1 m1 p1) := hc1; have HB1 : Hid (Below B wr w1) := hb1; clear hc1 hb1 he1)
        go_ret
        exact ⟨ret_int (HAT.out he).symm, ⟨l1, m1, p1, HC1.out, fun h => absurd ((HAT.out he).symm.trans h) he⟩, HB.out.trans HB1.out⟩
    · have e : k = m := by omega
      subst e
      have HC : Hid (CkS wr cb tb sb (cntS S) (l + sumTo (fun i => cntX loopB (A i)) k) (mk + sumTo (fun i => cntX makeB (A i)) k) (p + sumTo (fun i => nodesX (A i)) k)) := hck
      clear hck hbr
      go_wp2
      go_ret
      exact ⟨ret_int HZ.out.symm, ⟨_, _, _, HC.out, fun _ => ⟨rfl, rfl, rfl⟩⟩, HB.out⟩
end Go.Proofs.YtcbpjgnbdpfiiaaGreatDoor
set_option linter.unusedVariables false
namespace Go.Proofs.YtcbpjgnbdpfiiaaGreatDoor
set_option maxRecDepth 100000
open Go.RowKit Go.WideShapes

theorem firstE_shift {f : Nat → Int} (h : f 0 = 0) : ∀ m, firstE f (m + 1) = firstE (fun i => f (i + 1)) m
  | 0 => by rw [firstE_succ, show firstE f 0 = 0 from rfl, if_pos rfl, h]; rfl
  | m + 1 => by rw [firstE_succ, firstE_shift h m, firstE_succ (fun i => f (i + 1)) m]
theorem sumTo_shift (f : Nat → Nat) : ∀ m, sumTo f (m + 1) = f 0 + sumTo (fun i => f (i + 1)) m
  | 0 => by simp [sumTo]
  | m + 1 => by
    have := sumTo_shift f m
    rw [sumTo, this]
    simp only [sumTo]
    omega
theorem CkS.names {w : World} {cb tb sb : Nat} {N N' : ByteArray → Nat} {l k p : Nat} (h : CkS w cb tb sb N l k p) (e : ∀ x, N x = N' x) : CkS w cb tb sb N' l k p := ⟨h.blk, h.tab, h.sc.congr e, h.tn⟩
/-- only the names turned -/
theorem CkS.turn {w w' : World} {cb tb sb : Nat} {N N' : ByteArray → Nat} {l k p : Nat} (h : CkS w cb tb sb N l k p) (ht : TurnedM w w' sb) (hs : SMap w' sb N') : CkS w' cb tb sb N' l k p :=
  ⟨(ht.2.1 cb h.ne.2).trans h.blk, h.tab.keep (ht.2.1 tb h.tn), hs, h.tn⟩
theorem two_in (w W : World) (x y : ByteArray) (hW : W.heap = (w.alloc (.cells #[.string x, .string y] 9)).heap) : TxtsL W (.slice (some ⟨w.heap.size, 0, none⟩) 2 2) [x, y] := by
  obtain ⟨b, off, cap, h1, h2, h3, h4, h5⟩ := txts_lit w [x, y] (by simp [maxLen])
  refine ⟨b, off, cap, h1, h2, h3, by rw [hW]; exact h4, fun i hi => ?_⟩
  have := h5 i hi
  unfold World.cell? at this ⊢
  rw [hW]
  exact this
theorem below_of {B : Nat} {w W w' : World} {o : Obj} (hW : W.heap = (w.alloc o).heap) (e1 : W.os = w.os) (e2 : W.tape = w.tape) (e3 : W.output = w.output) (hB : B ≤ w.heap.size) (h : Below B W w') : Below B w w' := by
  refine ⟨h.os.trans e1, h.tape.trans e2, h.output.trans e3, ?_, fun b hb => (h.block b hb).trans ?_⟩
  · have := h.size
    rw [hW] at this
    simp at this
    omega
  · rw [hW]; exact Below.heap_alloc w o b (by omega)
/-- names come into scope -/
theorem enter_ck (B : Nat) (S : List ByteArray) (k : Int) (nm a : ByteArray) (cb tb sb l mk p : Nat) (w W : World) (hS : CkS w cb tb sb (cntS S) l mk p) (hsb : B ≤ sb) (hBw : B ≤ w.heap.size) (hb : bindsB k = true) (hn : nm.size ≠ 0) (h1 : nm.size ≤ maxLen) (h2 : (atN k a).size ≤ maxLen) (hl : S.length + 2 ≤ 4294967296)
    (hW : W.heap = (w.alloc (.cells #[.string nm, .string (atN k a)] 9)).heap) (e1 : W.os = w.os) (e2 : W.tape = w.tape) (e3 : W.output = w.output) :
    Calls Tryz.prog 86 #[.map (some sb), .slice (some ⟨w.heap.size, 0, none⟩) 2 2] W fun e w' => e = .returned (.tuple #[]) ∧ CkS w' cb tb sb (cntS (innS S k nm a)) l mk p ∧ Below B w w' := by
  have hS' : CkS W cb tb sb (cntS S) l mk p := hS.keep fun b hb => by rw [hW]; exact Below.heap_alloc w _ b hb
  refine (enter_is sb (cntS S) [nm, atN k a] _ W hS'.sc (two_in w W _ _ hW) (fun x hx => ?_) (fun y => by have := cntS_le S y; simp; omega)).mono ?_
  · simp only [List.mem_cons, List.not_mem_nil, or_false] at hx
    rcases hx with rfl | rfl
    · exact h1
    · exact h2
  · rintro e w' ⟨rfl, h3, h4⟩
    exact ⟨rfl, (hS'.turn h4 h3).names (fun y => (cntS_inn S hb hn y).symm), below_of hW e1 e2 e3 hBw (h4.below hsb)⟩
/-- .. and leave it -/
theorem leave_ck (B : Nat) (S : List ByteArray) (k : Int) (nm a : ByteArray) (cb tb sb l mk p : Nat) (w W : World) (hS : CkS w cb tb sb (cntS (innS S k nm a)) l mk p) (hsb : B ≤ sb) (hBw : B ≤ w.heap.size) (hb : bindsB k = true) (hn : nm.size ≠ 0) (h1 : nm.size ≤ maxLen) (h2 : (atN k a).size ≤ maxLen) (hl : S.length + 2 ≤ 4294967296)
    (hW : W.heap = (w.alloc (.cells #[.string nm, .string (atN k a)] 9)).heap) (e1 : W.os = w.os) (e2 : W.tape = w.tape) (e3 : W.output = w.output) :
    Calls Tryz.prog 87 #[.map (some sb), .slice (some ⟨w.heap.size, 0, none⟩) 2 2] W fun e w' => e = .returned (.tuple #[]) ∧ CkS w' cb tb sb (cntS S) l mk p ∧ Below B w w' := by
  have hS' : CkS W cb tb sb (fun y => cntS S y + cntE [nm, atN k a] y) l mk p := (hS.keep fun b hb => by rw [hW]; exact Below.heap_alloc w _ b hb).names (cntS_inn S hb hn)
  refine (leave_is sb (cntS S) [nm, atN k a] _ W hS'.sc (two_in w W _ _ hW) (fun x hx => ?_) (fun y => by have := cntS_le S y; simp; omega)).mono ?_
  · simp only [List.mem_cons, List.not_mem_nil, or_false] at hx
    rcases hx with rfl | rfl
    · exact h1
    · exact h2
  · rintro e w' ⟨rfl, h3, h4⟩
    exact ⟨rfl, hS'.turn h4 h3, below_of hW e1 e2 e3 hBw (h4.below hsb)⟩
end Go.Proofs.YtcbpjgnbdpfiiaaGreatDoor
