/-
  CONTRACTS of package core: clauses, ahead of their expressions (checkFirst, checkClauses).
-/
import Derived.Test.YtkhlfdnlpimojaaDoorCkSmall
import Derived.Test.YtkhlfdnlpimojaaDoorPkPick
import Derived.Deep.QuietTactic
import Derived.BigQuiet
set_option linter.unusedVariables false
namespace Go.Proofs.YtkhlfdnlpimojaaDoor
set_option maxRecDepth 100000
open Go.RowKit Go.WideShapes

theorem hidC {p : Prop} (h : p) : Hid p := h
theorem aOld {w : World} {o x : Obj} {b : Nat} (h : w.heap[b]? = some x) : (w.alloc o).heap[b]? = some x := (Below.heap_alloc w o b (Array.getElem?_eq_some_iff.1 h).1).trans h
theorem aNew {w : World} {o : Obj} {g : Nat} (hg : w.heap.size = g) : (w.alloc o).heap[g]? = some o := by subst hg; exact heap_alloc_new w o
theorem sOth {w : World} {b j c : Nat} {v : Value} {x : Obj} (h : w.heap[c]? = some x) (hn : c ≠ b) : (w.setCell ⟨b, j, none⟩ v).heap[c]? = some x := (Below.heap_setCell _ _ _ _ hn).trans h
theorem blC {w w' : World} {B b : Nat} {o : Obj} (hb : Below B w w') (hB : b < B) (h : w.heap[b]? = some o) : w'.heap[b]? = some o := (hb.block b hB).trans h
/-- the cells of a clause, ahead of its expression -/
structure ClAt (w : World) (b off : Nat) (k : Int) (nm a : ByteArray) : Prop where
  c0 : w.cell? ⟨b, off, none⟩ = some (.int .i64 k)
  c1 : w.cell? ⟨b, off + 1, none⟩ = some (.string nm)
  c2 : w.cell? ⟨b, off + 2, none⟩ = some (.string a)
  s1 : nm.size ≤ maxLen
  s2 : a.size ≤ maxLen
theorem ClAt.below {w w' : World} {B b off : Nat} {k : Int} {nm a : ByteArray} (h : ClAt w b off k nm a) (hb : Below B w w') (hB : b < B) : ClAt w' b off k nm a :=
  have e := fun o => hb.cell (p := ⟨b, o, none⟩) hB
  ⟨(e _).trans h.c0, (e _).trans h.c1, (e _).trans h.c2, h.s1, h.s2⟩
/-- what is said of the first clause of those that are left -/
def cf1 (n : Nat) (k : Int) (nm a : ByteArray) (k2 lo : Int) : Int :=
  if k = 1 then namesF nm a else if k = 2 then namesF nm noB else if k = 3 then (if n ≠ 1 ∧ k2 ≠ 4 then 4 else 0) else if k = 4 then (if n ≠ 1 ∨ lo ≠ 1 then 4 else 0) else 3
set_option maxHeartbeats 3200000 in
theorem checkFirst_is (b off n cap : Nat) (k : Int) (nm a : ByteArray) (k2 lo : Int) (w : World) (hn : 1 ≤ n) (hc : n ≤ cap) (hm : cap ≤ maxLen) (h : ClAt w b off k nm a) (h2 : 1 < n → w.cell? ⟨b, off + 15, none⟩ = some (.int .i64 k2)) (hb : b < w.heap.size) :
    Calls Tryd.prog 58 #[.slice (some ⟨b, off, none⟩) n cap, .int .i64 lo] w fun e w' => e = .returned (.int .i64 (cf1 n k nm a k2 lo)) ∧ Below w.heap.size w w' := by
  obtain ⟨c0, c1, c2, s1, s2⟩ := h
  have CN : Hid (∀ W x y, x.size ≤ maxLen → y.size ≤ maxLen → Calls Tryd.prog 29 #[.string x, .string y] W fun e w' => e = .returned (.int .i64 (namesF x y)) ∧ w' = W) := fun W x y hx hy => checkNames_is x y W hx hy
  have hn0 : (0 : Int) < (n : Int) := by omega
  unfold maxLen at hm
  by_cases e1 : k = 1
  · subst e1
    have CM : Hid (∀ W, Calls Tryd.prog 29 #[.string nm, .string a] W fun e w' => e = .returned (.int .i64 (cf1 n 1 nm a k2 lo)) ∧ w' = W) := fun W => CN.out W nm a s1 s2
    generalize cf1 n 1 nm a k2 lo = R at *
    clear CN h2
    by_cases en : (n : Int) = 1
    all_goals
      go_enter Tryd.func58, Tryd.ntmps58
      go_upto_region 5 with fail
      go_quiet ((go_at_call 29; exact Calls.quiet_of_same (CM.out _)))
      go_wp2_with fail
      go_ret
      exact ⟨rfl, rfl, rfl, rfl, Nat.le_refl _, fun _ _ => rfl⟩
  · have g1 : (k == 1) = false := by simpa using e1
    by_cases e2 : k = 2
    · subst e2
      have CM : Hid (∀ W, Calls Tryd.prog 29 #[.string nm, .string ⟨#[]⟩] W fun e w' => e = .returned (.int .i64 (cf1 n 2 nm a k2 lo)) ∧ w' = W) := fun W => CN.out W nm noB s1 (by decide)
      generalize cf1 n 2 nm a k2 lo = R at *
      clear CN h2
      by_cases en : (n : Int) = 1
      all_goals
        go_enter Tryd.func58, Tryd.ntmps58
        go_wp2_with (go_at_call 29; refine (CM.out _).mono ?_; rintro e w1 ⟨rfl, hw1⟩; obtain rfl := hw1.symm)
        go_ret
        exact ⟨rfl, Below.refl _ _⟩
    · have g2 : (k == 2) = false := by simpa using e2
      by_cases e3 : k = 3
      · subst e3
        by_cases en : n = 1
        · subst en
          go_enter Tryd.func58, Tryd.ntmps58
          go_wp2_with fail
          go_ret
          exact ⟨rfl, Below.refl _ _⟩
        · have c3 := h2 (by omega)
          have en1 : ((n : Int) == 1) = false := by simp; omega
          have en2 : (1 : Int) < (n : Int) := by omega
          by_cases e4 : k2 = 4
          · have HR : Hid (cf1 n 3 nm a k2 lo = 0) := by unfold cf1; rw [if_neg (by decide), if_neg (by decide), if_pos rfl, if_neg (by omega)]; exact rfl
            rw [HR.out]
            subst e4
            go_enter Tryd.func58, Tryd.ntmps58
            go_wp2_with fail
            go_ret
            exact ⟨rfl, Below.refl _ _⟩
          · have HR : Hid (cf1 n 3 nm a k2 lo = 4) := by unfold cf1; rw [if_neg (by decide), if_neg (by decide), if_pos rfl, if_pos ⟨en, e4⟩]; exact rfl
            rw [HR.out]
            have g4 : (k2 == 4) = false := by simpa using e4
            clear e4
            go_enter Tryd.func58, Tryd.ntmps58
            go_wp2_with fail
            go_ret
            exact ⟨rfl, Below.refl _ _⟩
      · have g3 : (k == 3) = false := by simpa using e3
        by_cases e4 : k = 4
        · subst e4
          by_cases en : n = 1
          · subst en
            by_cases el : lo = 1
            · subst el
              go_enter Tryd.func58, Tryd.ntmps58
              go_wp2_with fail
              go_ret
              exact ⟨rfl, Below.refl _ _⟩
            · have HR : Hid (cf1 1 4 nm a k2 lo = 4) := by unfold cf1; rw [if_neg (by decide), if_neg (by decide), if_neg (by decide), if_pos rfl, if_pos (.inr el)]; exact rfl
              rw [HR.out]
              have gl : (lo == 1) = false := by simpa using el
              clear el
              go_enter Tryd.func58, Tryd.ntmps58
              go_wp2_with fail
              go_ret
              exact ⟨rfl, Below.refl _ _⟩
          · have HR : Hid (cf1 n 4 nm a k2 lo = 4) := by unfold cf1; rw [if_neg (by decide), if_neg (by decide), if_neg (by decide), if_pos rfl, if_pos (.inl en)]; exact rfl
            rw [HR.out]
            have en1 : ((n : Int) == 1) = false := by simp; omega
            clear h2
            go_enter Tryd.func58, Tryd.ntmps58
            go_wp2_with fail
            go_ret
            exact ⟨rfl, Below.refl _ _⟩
        · have g4 : (k == 4) = false := by simpa using e4
          have HR : Hid (cf1 n k nm a k2 lo = 3) := by unfold cf1; rw [if_neg e1, if_neg e2, if_neg e3, if_neg e4]; exact rfl
          rw [HR.out]
          clear h2 e1 e2 e3 e4
          by_cases en : (n : Int) = 1
          all_goals
            go_enter Tryd.func58, Tryd.ntmps58
            go_wp2_with fail
            go_ret
            exact ⟨rfl, Below.refl _ _⟩
/-- how many loops are ahead -/
def loN (K : Nat → Int) : Nat → Nat
  | 0 => 0
  | i + 1 => loN K i + (if K i = 1 then 1 else 0)
theorem loN_le (K : Nat → Int) : ∀ i, loN K i ≤ i
  | 0 => Nat.le_refl _
  | i + 1 => by
    have := loN_le K i
    unfold loN
    split <;> omega
def cfi (n : Nat) (K : Nat → Int) (N A : Nat → ByteArray) (i : Nat) : Int := cf1 (n - i) (K i) (N i) (A i) (K (i + 1)) (loN K i)
/-- what is said of clauses -/
def clF (n : Nat) (K : Nat → Int) (N A : Nat → ByteArray) : Int := firstE (cfi n K N A) n
set_option maxHeartbeats 3200000 in
theorem checkClauses_is (b off n cap : Nat) (K : Nat → Int) (N A : Nat → ByteArray) (w : World) (hc : n ≤ cap) (hm : cap ≤ maxLen) (h : ∀ i, i < n → ClAt w b (off + i * 15) (K i) (N i) (A i)) (hb : b < w.heap.size) :
    Calls Tryd.prog 30 #[.slice (some ⟨b, off, none⟩) n cap] w fun e w' => e = .returned (.int .i64 (clF n K N A)) ∧ Below w.heap.size w w' := by
  have CF : Hid (∀ W i, Below w.heap.size w W → i < n → Calls Tryd.prog 58 #[.slice (some ⟨b, off + i * 15, none⟩) (n - i) (cap - i), .int .i64 (loN K i : Int)] W fun e w' => e = .returned (.int .i64 (cfi n K N A i)) ∧ Below W.heap.size W w') := fun W i hW hi => checkFirst_is b (off + i * 15) (n - i) (cap - i) (K i) (N i) (A i) (K (i + 1)) (loN K i) W (by omega) (by omega) (by omega) ((h i hi).below hW hb) (fun h1 => by
    have := ((h (i + 1) (by omega)).below hW hb).c0
    rw [show off + (i + 1) * 15 = off + i * 15 + 15 by omega] at this
    exact this) (Nat.lt_of_lt_of_le hb hW.size)
  have HK : Hid (∀ W i, Below w.heap.size w W → i < n → W.cell? ⟨b, off + i * 15, none⟩ = some (.int .i64 (K i))) := fun W i hW hi => ((h i hi).below hW hb).c0
  unfold maxLen at hm
  clear h
  go_enter Tryd.func30, Tryd.ntmps30
  go_wp2
  go_loopw [3, 8] (fun l i wr => ∃ j : Nat, j ≤ n ∧ i = .int .i64 j ∧ l = .int .i64 (loN K j : Int) ∧ firstE (cfi n K N A) j = 0 ∧ Below w.heap.size w wr) (fun _ i _ => n - (intOf i).toNat)
  case atStart => exact ⟨0, Nat.zero_le _, rfl, rfl, rfl, Below.refl _ _⟩
  case round =>
    obtain ⟨j, hj, rfl, rfl, hf, hbr⟩ := hrel
    have HBR := hidC hbr
    have HF := hidC hf
    have hzr := hbr.size
    have hbz : b < wr.heap.size := by omega
    clear hbr hf
    by_cases hlt : j < n
    · have hlo := loN_le K j
      have CI : Hid (Calls Tryd.prog 58 #[.slice (some ⟨b, off + j * 15, none⟩) (n - j) (cap - j), .int .i64 (loN K j : Int)] wr fun e w' => e = .returned (.int .i64 (cfi n K N A j)) ∧ Below wr.heap.size wr w') := CF.out wr j HBR.out hlt
      have hji : (j : Int) < (n : Int) := by omega
      have HNE : Hid (¬ cfi n K N A j = 0 → clF n K N A = cfi n K N A j) := fun h1 => firstE_at hlt HF.out h1
      have HZ : Hid (cfi n K N A j = 0 → firstE (cfi n K N A) (j + 1) = 0) := fun h1 => by rw [firstE_succ, if_pos HF.out]; exact h1
      generalize cfi n K N A j = R at CI HNE HZ
      by_cases hR : R = 0
      · subst hR
        have HZ1 : Hid (firstE (cfi n K N A) (j + 1) = 0) := HZ.out rfl
        clear HZ HNE
        by_cases hk : K j = 1
        · have HLO : Hid (loN K (j + 1) = loN K j + 1) := by show loN K j + (if K j = 1 then 1 else 0) = _; rw [if_pos hk]
          go_wp2_with (go_at_call 58; refine CI.out.mono ?_; rintro e w1 ⟨rfl, hb1⟩; have HB1 : Hid (Below w.heap.size w w1) := HBR.out.trans (hb1.mono hzr); have k0 := HK.out w1 j HB1.out hlt; rw [hk] at k0; have hz1 := HB1.out.size; have hb1z : b < w1.heap.size := (by omega); clear hb1 CI)
          go_roundw
          case rel => exact ⟨j + 1, by omega, by go_num, by rw [HLO.out]; simp, HZ1.out, HB1.out⟩
          case measure => simp [intOf]; omega
        · have HLO : Hid (loN K (j + 1) = loN K j) := by show loN K j + (if K j = 1 then 1 else 0) = _; rw [if_neg hk]; exact rfl
          have hk1 : (K j == 1) = false := by simpa using hk
          clear hk
          go_wp2_with (go_at_call 58; refine CI.out.mono ?_; rintro e w1 ⟨rfl, hb1⟩; have HB1 : Hid (Below w.heap.size w w1) := HBR.out.trans (hb1.mono hzr); have k0 := HK.out w1 j HB1.out hlt; have hz1 := HB1.out.size; have hb1z : b < w1.heap.size := (by omega); clear hb1 CI)
          go_roundw
          case rel => exact ⟨j + 1, by omega, by go_num, by rw [HLO.out], HZ1.out, HB1.out⟩
          case measure => simp [intOf]; omega
      · have hR1 : (R == 0) = false := by simpa using hR
        have HRE : Hid (R = clF n K N A) := (HNE.out hR).symm
        clear HZ HNE hR
        go_wp2_with (go_at_call 58; refine CI.out.mono ?_; rintro e w1 ⟨rfl, hb1⟩; have HB1 : Hid (Below w.heap.size w w1) := HBR.out.trans (hb1.mono hzr); clear hb1 CI)
        go_ret
        exact ⟨ret_int HRE.out, HB1.out⟩
    · obtain rfl : j = n := by omega
      have HCL : Hid (0 = clF j K N A) := HF.out.symm
      go_wp2_with fail
      go_ret
      exact ⟨ret_int HCL.out, HBR.out⟩
end Go.Proofs.YtkhlfdnlpimojaaDoor
