/-
  INSERTION, PLAINLY, and CONTRACTS of the document's lessItem and lessItems.
-/
import Derived.Test.YtlblomlblibbdaaDoorRlSortI
import Derived.Deep.QuietTactic
import Derived.BigQuiet
import Derived.Shelf.SlSortCmp.QuietGrown
set_option linter.unusedVariables false
namespace Go.Proofs.YtlblomlblibbdaaDoor
set_option maxRecDepth 100000
open Go.RowKit Go.WideShapes

/-- is the key of one row less? -/
def keyL (Z : Nat → Nat → It) (n i j : Nat) : Bool := decide (keyC (Z i) (Z j) n < 0)
theorem keyL_iff {Z : Nat → Nat → It} {n i j : Nat} : keyL Z n i j = true ↔ KeyA (Z i) (Z j) n := by
  unfold keyL
  rw [decide_eq_true_eq]
  rcases key_tri (Z i) (Z j) n with h | h | h
  · rw [keyC_lt h]; exact ⟨fun _ => h, fun _ => by decide⟩
  · rw [keyC_eq h]; exact ⟨fun h => absurd h (by decide), fun h' => absurd (key_right h' (fun t ht => (h t ht).symm)) (key_irr _ _)⟩
  · rw [keyC_gt h]; exact ⟨fun h => absurd h (by decide), fun h' => absurd (key_trans h h') (key_irr _ _)⟩
/-- where one is put: from the end on -/
def scanP (Z : Nat → Nat → It) (n x : Nat) (L : List Nat) : Nat → Nat
  | 0 => 0
  | a + 1 => if keyL Z n x (L.getD a 0) = true then scanP Z n x L a else a + 1
theorem scan_le (Z : Nat → Nat → It) (n x : Nat) (L : List Nat) : ∀ a, scanP Z n x L a ≤ a
  | 0 => Nat.le_refl _
  | a + 1 => by
    unfold scanP
    split
    · exact Nat.le_succ_of_le (scan_le Z n x L a)
    · exact Nat.le_refl _
theorem scan_more {Z : Nat → Nat → It} {n x : Nat} {L : List Nat} : ∀ {a j : Nat}, scanP Z n x L a ≤ j → j < a → keyL Z n x (L.getD j 0) = true
  | 0, j, _, h => absurd h (Nat.not_lt_zero _)
  | a + 1, j, h, hj => by
    unfold scanP at h
    by_cases e : keyL Z n x (L.getD a 0) = true
    · rw [if_pos e] at h
      by_cases e2 : j = a
      · rw [e2]; exact e
      · exact scan_more h (by omega)
    · rw [if_neg e] at h; omega
theorem scan_less {Z : Nat → Nat → It} {n x : Nat} {L : List Nat} : ∀ {a : Nat}, 0 < scanP Z n x L a → keyL Z n x (L.getD (scanP Z n x L a - 1) 0) = false
  | 0, h => absurd h (Nat.lt_irrefl _)
  | a + 1, h => by
    by_cases e : keyL Z n x (L.getD a 0) = true
    · have h1 : scanP Z n x L (a + 1) = scanP Z n x L a := by rw [scanP, if_pos e]
      rw [h1] at h ⊢
      exact scan_less h
    · have h1 : scanP Z n x L (a + 1) = a + 1 := by rw [scanP, if_neg e]
      rw [h1, Nat.add_sub_cancel]
      simpa using e
/-- those that were put in so far -/
def insL (Z : Nat → Nat → It) (n : Nat) : Nat → List Nat
  | 0 => []
  | i + 1 => (insL Z n i).take (scanP Z n i (insL Z n i) i) ++ i :: (insL Z n i).drop (scanP Z n i (insL Z n i) i)
theorem insL_perm (Z : Nat → Nat → It) (n : Nat) : ∀ i, (insL Z n i).Perm (List.range i)
  | 0 => List.Perm.refl _
  | i + 1 => by
    have h := insL_perm Z n i
    rw [List.range_succ]
    unfold insL
    refine List.perm_middle.trans ?_
    rw [List.take_append_drop]
    exact (List.Perm.cons _ h).trans (List.perm_append_singleton _ _).symm
theorem insL_len (Z : Nat → Nat → It) (n i : Nat) : (insL Z n i).length = i := by rw [(insL_perm Z n i).length_eq, List.length_range]
theorem insL_lt {Z : Nat → Nat → It} {n i x : Nat} (h : x ∈ insL Z n i) : x < i := List.mem_range.1 ((insL_perm Z n i).mem_iff.1 h)
theorem insL_getD {Z : Nat → Nat → It} {n i j : Nat} (hj : j < i) : (insL Z n i).getD j 0 ∈ insL Z n i := by
  have h : j < (insL Z n i).length := by rw [insL_len]; exact hj
  rw [List.getD_eq_getElem?_getD, List.getElem?_eq_getElem h, Option.getD_some]
  exact List.getElem_mem h
theorem insL_sorted (Z : Nat → Nat → It) (n : Nat) : ∀ i, (insL Z n i).Pairwise (LtR Z n)
  | 0 => List.Pairwise.nil
  | i + 1 => by
    have ih := insL_sorted Z n i
    have hl := insL_len Z n i
    unfold insL
    generalize hL : insL Z n i = L at *
    have hLt : ∀ x ∈ L, x < i := fun x hx => insL_lt (by rw [hL]; exact hx)
    have hgt : ∀ j, j < i → L.getD j 0 = L[j]?.getD 0 := fun j _ => List.getD_eq_getElem?_getD
    obtain ⟨p, hp⟩ : ∃ p, p = scanP Z n i L i := ⟨_, rfl⟩
    rw [← hp]
    have hpi : p ≤ i := by rw [hp]; exact scan_le _ _ _ _ _
    have hA : ∀ x ∈ L.take p, LtR Z n x i := fun x hx => by
      obtain ⟨j, hj, e⟩ := List.mem_iff_getElem.1 hx
      rw [List.length_take] at hj
      rw [List.getElem_take] at e
      have h0 : 0 < scanP Z n i L i := by omega
      have h1 := scan_less h0
      rw [← hp] at h1
      have hpl : p - 1 < L.length := by omega
      rw [List.getD_eq_getElem?_getD, List.getElem?_eq_getElem hpl, Option.getD_some] at h1
      have h2 : ¬ KeyA (Z i) (Z L[p - 1]) n := fun h => by rw [keyL_iff.2 h] at h1; exact absurd h1 (by decide)
      have h3 : LtR Z n L[p - 1] i := by
        rcases key_tri (Z i) (Z L[p - 1]) n with k | k | k
        · exact absurd k h2
        · exact .inr ⟨fun t ht => (k t ht).symm, hLt _ (List.getElem_mem hpl)⟩
        · exact .inl k
      by_cases e2 : j = p - 1
      · subst e2; rw [← e]; exact h3
      · have h4 := List.pairwise_iff_getElem.1 ih j (p - 1) (by omega) hpl (by omega)
        rw [← e]
        exact ltR_trans h4 h3
    have hB : ∀ x ∈ L.drop p, LtR Z n i x := fun x hx => by
      obtain ⟨j, hj, e⟩ := List.mem_iff_getElem.1 hx
      rw [List.length_drop] at hj
      rw [List.getElem_drop] at e
      have h1 := scan_more (Z := Z) (n := n) (x := i) (L := L) (a := i) (j := p + j) (by omega) (by omega)
      rw [List.getD_eq_getElem?_getD, List.getElem?_eq_getElem (by omega), Option.getD_some, e] at h1
      exact .inl (keyL_iff.1 h1)
    rw [List.pairwise_append]
    refine ⟨ih.sublist (List.take_sublist _ _), ?_, ?_⟩
    · rw [List.pairwise_cons]
      exact ⟨hB, ih.sublist (List.drop_sublist _ _)⟩
    · intro a ha b hb
      rcases List.mem_cons.1 hb with rfl | hb
      · exact hA a ha
      · exact ltR_trans (hA a ha) (hB b hb)
theorem insL_ord (Z : Nat → Nat → It) (n m : Nat) : insL Z n m = ordL Z n m := ord_unique (insL_perm Z n m) (insL_sorted Z n m)
/-- .. as a function of the place -/
def insF (Z : Nat → Nat → It) (n i j : Nat) : Nat := (insL Z n i).getD j 0
theorem insF_ord (Z : Nat → Nat → It) (n m j : Nat) : insF Z n m j = ordA Z n m j := by unfold insF ordA; rw [insL_ord]
theorem insF_lt {Z : Nat → Nat → It} {n i j : Nat} (hj : j < i) : insF Z n i j < i := insL_lt (insL_getD hj)
theorem insF_succ (Z : Nat → Nat → It) (n i j : Nat) (hj : j < i + 1) : insF Z n (i + 1) j = if j < scanP Z n i (insL Z n i) i then insF Z n i j else if j = scanP Z n i (insL Z n i) i then i else insF Z n i (j - 1) := by
  have hp := scan_le Z n i (insL Z n i) i
  have hl := insL_len Z n i
  unfold insF
  show ((insL Z n i).take (scanP Z n i (insL Z n i) i) ++ i :: (insL Z n i).drop (scanP Z n i (insL Z n i) i)).getD j 0 = _
  generalize scanP Z n i (insL Z n i) i = p at *
  generalize insL Z n i = L at *
  have ht : (L.take p).length = p := by rw [List.length_take]; omega
  simp only [List.getD_eq_getElem?_getD]
  by_cases h1 : j < p
  · rw [if_pos h1, List.getElem?_append_left (by omega), List.getElem?_take_of_lt h1]
  · rw [if_neg h1, List.getElem?_append_right (by omega), ht]
    by_cases h2 : j = p
    · rw [if_pos h2, h2, Nat.sub_self]; rfl
    · rw [if_neg h2, show j - p = (j - p - 1) + 1 by omega, List.getElem?_cons_succ, List.getElem?_drop, show p + (j - p - 1) = j - 1 by omega]
set_option maxHeartbeats 800000 in
theorem lessItem_grow (k n : Int) (s : ByteArray) (k' n' : Int) (s' : ByteArray) (w : World) :
    Calls Tryd.prog 41 #[.agg #[.int .i64 k, .int .i64 n, .string s], .agg #[.int .i64 k', .int .i64 n', .string s']] w fun e w' => e = .returned (.bool (lessI k n s k' n' s')) ∧ ∃ os, w' = Go.Sort.grow w os := by
  have HB : Hid (∀ o o', ∃ os, (w.alloc o).alloc o' = Go.Sort.grow w os) := fun o o' => grow_two w o o'
  by_cases hk : k = k'
  · subst hk
    by_cases hn : n = n'
    · subst hn
      have HR : Hid (lessI k n s k n s' = Op.bytesLess s.toList s'.toList) := by
        have h : lessI k n s k n s' = Op.bytesLess s.toList s'.toList := by unfold lessI; rw [if_pos rfl, if_pos rfl]
        exact h
      generalize lessI k n s k n s' = R at *
      go_enter Tryd.func41, Tryd.ntmps41
      go_wp2
      go_ret
      exact ⟨ret_boolC HR.out.symm, HB.out _ _⟩
    · have HR : Hid (lessI k n s k n' s' = decide (n < n')) := by
        have h : lessI k n s k n' s' = decide (n < n') := by unfold lessI; rw [if_pos rfl, if_neg hn]
        exact h
      have hn1 : (n == n') = false := by simpa using hn
      have hn2 : (n != n') = true := by simpa using hn
      clear hn
      generalize lessI k n s k n' s' = R at *
      go_enter Tryd.func41, Tryd.ntmps41
      go_wp2
      all_goals
        go_ret
        refine ⟨ret_boolC ?_, HB.out _ _⟩
        first | exact HR.out.symm | (rw [HR.out]; simp_all)
  · have HR : Hid (lessI k n s k' n' s' = decide (k < k')) := by
      have h : lessI k n s k' n' s' = decide (k < k') := by unfold lessI; rw [if_neg hk]
      exact h
    have hn1 : (k == k') = false := by simpa using hk
    have hn2 : (k != k') = true := by simpa using hk
    clear hk
    generalize lessI k n s k' n' s' = R at *
    go_enter Tryd.func41, Tryd.ntmps41
    go_wp2
    all_goals
      go_ret
      refine ⟨ret_boolC ?_, HB.out _ _⟩
      first | exact HR.out.symm | (rw [HR.out]; simp_all)
theorem dg_chain (w : World) (q nn : Nat) (oo : Array Obj) : Chain w (Go.Sort.grow ((w.drewN q).drewN nn) oo) := Chain.trans (below_drawn (Below.refl _ _) q) (grown_chain _ nn oo)
theorem less_key (X Y : Nat → It) {n k : Nat} (hk : k < n) (h : ∀ t, t < k → X t = Y t) (hne : ¬ X k = Y k) : lessI (X k).kind (X k).n (X k).s (Y k).kind (Y k).n (Y k).s = decide (keyC X Y n < 0) := by
  rcases ahead_tri (X k) (Y k) with a | a | a
  · rw [(less_ahead _ _).2 a, keyC_lt ⟨k, hk, h, a⟩]; rfl
  · exact absurd a hne
  · rw [keyC_gt ⟨k, hk, fun t ht => (h t ht).symm, a⟩]
    cases e : lessI (X k).kind (X k).n (X k).s (Y k).kind (Y k).n (Y k).s
    · rfl
    · exact absurd (ahead_trans ((less_ahead _ _).1 e) a) (ahead_irr _)
theorem itB_iff' {x y : It} : (x.kind = y.kind ∧ x.n = y.n ∧ (x.s.toList == y.s.toList) = true) ↔ x = y := by
  constructor
  · rintro ⟨h1, h2, h3⟩
    exact it_ext h1 h2 (beq_iff_eq.1 h3)
  · rintro rfl
    exact ⟨rfl, rfl, by simp⟩
set_option maxHeartbeats 3200000 in
theorem lessItems_is (u v : Value) (k : Nat) (X Y : Nat → It) (w : World) (hu : ItsIs w u k X) (hv : ItsIs w v k Y) :
    Calls Tryd.prog 23 #[u, v] w fun e w' => e = .returned (.bool (decide (keyC X Y k < 0))) ∧ Chain w w' := by
  obtain ⟨a, cap, rfl, h1, h2, _, h3⟩ := hu
  obtain ⟨a', cap', rfl, h1', h2', _, h3'⟩ := hv
  have HQ : Hid (∀ j, j < k → ∃ b off b' off', a = some ⟨b, off, none⟩ ∧ a' = some ⟨b', off', none⟩ ∧ ∀ W, Chain w W → W.cell? ⟨b, off + j * 3, none⟩ = some (.int .i64 (X j).kind) ∧ W.cell? ⟨b, off + j * 3 + 1, none⟩ = some (.int .i64 (X j).n) ∧ W.cell? ⟨b, off + j * 3 + 2, none⟩ = some (.string (X j).s) ∧ W.cell? ⟨b', off' + j * 3, none⟩ = some (.int .i64 (Y j).kind) ∧ W.cell? ⟨b', off' + j * 3 + 1, none⟩ = some (.int .i64 (Y j).n) ∧ W.cell? ⟨b', off' + j * 3 + 2, none⟩ = some (.string (Y j).s)) := fun j hj => by
    obtain ⟨b, off, e1, e2, e3⟩ := h3 (by omega)
    obtain ⟨b', off', f1, f2, f3⟩ := h3' (by omega)
    obtain ⟨p0, p1, p2⟩ := e3 j hj
    obtain ⟨q0, q1, q2⟩ := f3 j hj
    exact ⟨b, off, b', off', e1, f1, fun W hW => ⟨(Below.cell hW (p := ⟨b, off + j * 3, none⟩) e2).trans p0, (Below.cell hW (p := ⟨b, off + j * 3 + 1, none⟩) e2).trans p1, (Below.cell hW (p := ⟨b, off + j * 3 + 2, none⟩) e2).trans p2, (Below.cell hW (p := ⟨b', off' + j * 3, none⟩) f2).trans q0, (Below.cell hW (p := ⟨b', off' + j * 3 + 1, none⟩) f2).trans q1, (Below.cell hW (p := ⟨b', off' + j * 3 + 2, none⟩) f2).trans q2⟩⟩
  have hkk : k ≤ 9223372036854775807 := by unfold maxLen at h2; omega
  have mixed : Tryd.prog.follows .mixedOrders = true := by kernel_rfl
  clear h3 h3' h2 h2'
  go_enter Tryd.func23, Tryd.ntmps23
  go_wp2
  go_loopw [5] (fun i wr => ∃ j : Nat, j ≤ k ∧ i = .int .i64 j ∧ Chain w wr ∧ ∀ t, t < j → X t = Y t) (fun i _ => k - (intOf i).toNat)
  case atStart => exact ⟨0, Nat.zero_le _, rfl, Chain.refl _, fun t ht => absurd ht (Nat.not_lt_zero _)⟩
  case round =>
    obtain ⟨j, hj, rfl, hch, hsame⟩ := hrel
    have HCH : Hid (Chain w wr) := hch
    have HSA : Hid (∀ t, t < j → X t = Y t) := hsame
    clear hsame
    by_cases hlt : j < k
    · obtain ⟨b, off, b', off', rfl, rfl, hcells⟩ := HQ.out j hlt
      obtain ⟨e1, e2, e3, f1, f2, f3⟩ := hcells wr hch
      have HG : Hid (∀ W, Chain wr W → _) := fun W h => hcells W (hch.trans h)
      have hji : (j : Int) < (k : Int) := by omega
      clear hch hcells
      by_cases hxy : X j = Y j
      · have HXY : Hid (X j = Y j) := hxy
        rw [← hxy] at f1 f2 f3
        clear hxy HG
        go_wp2
        go_quiet (fail)
        go_wp2
        go_roundw
        case rel => exact ⟨j + 1, by omega, by go_num, below_drawn HCH.out _, fun t ht => if e : t = j then e ▸ HXY.out else HSA.out t (by omega)⟩
        case measure => simp [intOf]; omega
      · have HLK : Hid (lessI (X j).kind (X j).n (X j).s (Y j).kind (Y j).n (Y j).s = decide (keyC X Y k < 0)) := less_key X Y hlt HSA.out hxy
        have CJ : Hid (∀ W, Calls Tryd.prog 41 #[.agg #[.int .i64 (X j).kind, .int .i64 (X j).n, .string (X j).s], .agg #[.int .i64 (Y j).kind, .int .i64 (Y j).n, .string (Y j).s]] W fun e w' => e = .returned (.bool (lessI (X j).kind (X j).n (X j).s (Y j).kind (Y j).n (Y j).s)) ∧ ∃ q os', w' = Go.Sort.grow (W.drewN q) os') := fun W => (lessItem_grow _ _ _ _ _ _ W).mono fun e w' ⟨he, os', hw⟩ => ⟨he, 0, os', hw⟩
        have hx : ¬ (X j).kind = (Y j).kind ∨ ((X j).kind = (Y j).kind ∧ ¬ (X j).n = (Y j).n) ∨ ((X j).kind = (Y j).kind ∧ (X j).n = (Y j).n ∧ ((X j).s.toList == (Y j).s.toList) = false) := by
          by_cases h1 : (X j).kind = (Y j).kind
          · by_cases h2 : (X j).n = (Y j).n
            · cases h3 : ((X j).s.toList == (Y j).s.toList)
              · exact .inr (.inr ⟨h1, h2, rfl⟩)
              · exact absurd (itB_iff'.1 ⟨h1, h2, h3⟩) hxy
            · exact .inr (.inl ⟨h1, h2⟩)
          · exact .inl h1
        clear hxy
        generalize (X j).kind = xk at *
        generalize (X j).n = xn at *
        generalize (X j).s = xs at *
        generalize (Y j).kind = yk at *
        generalize (Y j).n = yn at *
        generalize (Y j).s = ys at *
        generalize lessI xk xn xs yk yn ys = L at *
        rcases hx with h1 | ⟨h1, h2⟩ | ⟨h1, h2, h3⟩
        · have h1' : (xk == yk) = false := by simpa using h1
          clear h1
          go_wp2
          go_quiet (fail)
          obtain ⟨W2, hW2⟩ : ∃ W, W = wr.drewN nq := ⟨_, rfl⟩
          have hc2 : Chain wr W2 := by rw [hW2]; exact below_drawn (Below.refl _ _) nq
          rw [← hW2]
          clear hW2 e1 e2 e3 f1 f2 f3
          go_wp2_with fail
          have f0 := fun nn oo => (HG.out _ (hc2.trans (grown_chain W2 nn oo))).1
          have f1 := fun nn oo => (HG.out _ (hc2.trans (grown_chain W2 nn oo))).2.1
          have f2 := fun nn oo => (HG.out _ (hc2.trans (grown_chain W2 nn oo))).2.2.1
          have f3 := fun nn oo => (HG.out _ (hc2.trans (grown_chain W2 nn oo))).2.2.2.1
          have f4 := fun nn oo => (HG.out _ (hc2.trans (grown_chain W2 nn oo))).2.2.2.2.1
          have f5 := fun nn oo => (HG.out _ (hc2.trans (grown_chain W2 nn oo))).2.2.2.2.2
          go_quiet_grown ((go_at_call 41; refine Calls.grown_of (CJ.out _)))
          go_wp2_with fail
          go_ret
          exact ⟨ret_bool HLK.out, HCH.out.trans (hc2.trans (grown_chain W2 _ _))⟩
        · subst h1
          have h2' : (xn == yn) = false := by simpa using h2
          clear h2
          go_wp2
          go_quiet (fail)
          obtain ⟨W2, hW2⟩ : ∃ W, W = wr.drewN nq := ⟨_, rfl⟩
          have hc2 : Chain wr W2 := by rw [hW2]; exact below_drawn (Below.refl _ _) nq
          rw [← hW2]
          clear hW2 e1 e2 e3 f1 f2 f3
          go_wp2_with fail
          have f0 := fun nn oo => (HG.out _ (hc2.trans (grown_chain W2 nn oo))).1
          have f1 := fun nn oo => (HG.out _ (hc2.trans (grown_chain W2 nn oo))).2.1
          have f2 := fun nn oo => (HG.out _ (hc2.trans (grown_chain W2 nn oo))).2.2.1
          have f3 := fun nn oo => (HG.out _ (hc2.trans (grown_chain W2 nn oo))).2.2.2.1
          have f4 := fun nn oo => (HG.out _ (hc2.trans (grown_chain W2 nn oo))).2.2.2.2.1
          have f5 := fun nn oo => (HG.out _ (hc2.trans (grown_chain W2 nn oo))).2.2.2.2.2
          go_quiet_grown ((go_at_call 41; refine Calls.grown_of (CJ.out _)))
          go_wp2_with fail
          go_ret
          exact ⟨ret_bool HLK.out, HCH.out.trans (hc2.trans (grown_chain W2 _ _))⟩
        · subst h1
          subst h2
          go_wp2
          go_quiet (fail)
          obtain ⟨W2, hW2⟩ : ∃ W, W = wr.drewN nq := ⟨_, rfl⟩
          have hc2 : Chain wr W2 := by rw [hW2]; exact below_drawn (Below.refl _ _) nq
          rw [← hW2]
          clear hW2 e1 e2 e3 f1 f2 f3
          go_wp2_with fail
          have f0 := fun nn oo => (HG.out _ (hc2.trans (grown_chain W2 nn oo))).1
          have f1 := fun nn oo => (HG.out _ (hc2.trans (grown_chain W2 nn oo))).2.1
          have f2 := fun nn oo => (HG.out _ (hc2.trans (grown_chain W2 nn oo))).2.2.1
          have f3 := fun nn oo => (HG.out _ (hc2.trans (grown_chain W2 nn oo))).2.2.2.1
          have f4 := fun nn oo => (HG.out _ (hc2.trans (grown_chain W2 nn oo))).2.2.2.2.1
          have f5 := fun nn oo => (HG.out _ (hc2.trans (grown_chain W2 nn oo))).2.2.2.2.2
          go_quiet_grown ((go_at_call 41; refine Calls.grown_of (CJ.out _)))
          go_wp2_with fail
          go_ret
          exact ⟨ret_bool HLK.out, HCH.out.trans (hc2.trans (grown_chain W2 _ _))⟩
    · have e : j = k := by omega
      subst e
      have HE : Hid (keyC X Y j = 0) := keyC_eq HSA.out
      go_wp2
      go_ret
      exact ⟨ret_bool (by rw [HE.out]; rfl), HCH.out⟩
end Go.Proofs.YtlblomlblibbdaaDoor
