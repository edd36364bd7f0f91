/-
  THE ORDER OF ROWS by some columns, then by where they stand; lists in that order. Nothing of the program.
-/
import Derived.Test.YtkcejelmohameaaGreatDoorKpOrd
import Derived.Test.YtkcejelmohameaaGreatDoorRlCols
import Derived.Shelf.SlSortCmp.NoneTotal
set_option linter.unusedVariables false
namespace Go.Proofs.YtkcejelmohameaaGreatDoor
set_option maxRecDepth 100000
open Go.RowKit

/-- the first place where two differ tells: one stands ahead -/
def KeyA (X Y : Nat → It) (n : Nat) : Prop := ∃ k, k < n ∧ (∀ t, t < k → X t = Y t) ∧ Ahead (X k) (Y k)
def keyC (X Y : Nat → It) (n : Nat) : Int := firstE (fun k => cmpT (X k) (Y k)) n
theorem key_tri (X Y : Nat → It) (n : Nat) : KeyA X Y n ∨ (∀ t, t < n → X t = Y t) ∨ KeyA Y X n := by
  induction n with
  | zero => exact .inr (.inl fun t ht => by omega)
  | succ n ih =>
    rcases ih with ⟨k, h1, h2⟩ | h | ⟨k, h1, h2⟩
    · exact .inl ⟨k, by omega, h2⟩
    · rcases ahead_tri (X n) (Y n) with a | a | a
      · exact .inl ⟨n, by omega, h, a⟩
      · exact .inr (.inl fun t ht => if e : t = n then e ▸ a else h t (by omega))
      · exact .inr (.inr ⟨n, by omega, fun t ht => (h t ht).symm, a⟩)
    · exact .inr (.inr ⟨k, by omega, h2⟩)
theorem key_irr (X : Nat → It) (n : Nat) : ¬ KeyA X X n := fun ⟨k, _, _, h⟩ => ahead_irr _ h
theorem key_trans {X Y Z : Nat → It} {n : Nat} (h : KeyA X Y n) (h' : KeyA Y Z n) : KeyA X Z n := by
  obtain ⟨k, a1, a2, a3⟩ := h
  obtain ⟨l, b1, b2, b3⟩ := h'
  rcases Nat.lt_trichotomy k l with e | e | e
  · exact ⟨k, a1, fun t ht => (a2 t ht).trans (b2 t (by omega)), by rw [← b2 k e]; exact a3⟩
  · subst e
    exact ⟨k, a1, fun t ht => (a2 t ht).trans (b2 t ht), ahead_trans a3 b3⟩
  · exact ⟨l, b1, fun t ht => (a2 t (by omega)).trans (b2 t ht), by rw [a2 l e]; exact b3⟩
theorem key_left {X Y Z : Nat → It} {n : Nat} (h : ∀ t, t < n → X t = Y t) (h' : KeyA Y Z n) : KeyA X Z n := by
  obtain ⟨l, b1, b2, b3⟩ := h'
  exact ⟨l, b1, fun t ht => (h t (by omega)).trans (b2 t ht), by rw [h l b1]; exact b3⟩
theorem key_right {X Y Z : Nat → It} {n : Nat} (h : KeyA X Y n) (h' : ∀ t, t < n → Y t = Z t) : KeyA X Z n := by
  obtain ⟨l, b1, b2, b3⟩ := h
  exact ⟨l, b1, fun t ht => (b2 t ht).trans (h' t (by omega)), by rw [← h' l b1]; exact b3⟩
theorem keyC_lt {X Y : Nat → It} {n : Nat} (h : KeyA X Y n) : keyC X Y n = -1 := by
  obtain ⟨k, h1, h2, h3⟩ := h
  unfold keyC
  rw [firstE_err h1 (fun j hj => by rw [h2 j hj]; exact cmpT_eq _) (by rw [cmpT_lt h3]; decide), cmpT_lt h3]
theorem keyC_gt {X Y : Nat → It} {n : Nat} (h : KeyA Y X n) : keyC X Y n = 1 := by
  obtain ⟨k, h1, h2, h3⟩ := h
  unfold keyC
  rw [firstE_err h1 (fun j hj => by rw [h2 j hj]; exact cmpT_eq _) (by rw [cmpT_gt h3]; decide), cmpT_gt h3]
theorem keyC_eq {X Y : Nat → It} {n : Nat} (h : ∀ t, t < n → X t = Y t) : keyC X Y n = 0 := by
  unfold keyC
  exact firstE_ok fun j hj => by rw [h j hj]; exact cmpT_eq _
theorem cmpT_zero {x y : It} (h : cmpT x y = 0) : x = y := by
  rcases ahead_tri x y with a | a | a
  · rw [cmpT_lt a] at h; exact absurd h (by decide)
  · exact a
  · rw [cmpT_gt a] at h; exact absurd h (by decide)
/-- a row stands ahead of another one -/
def LtR (Z : Nat → Nat → It) (n i j : Nat) : Prop := KeyA (Z i) (Z j) n ∨ ((∀ t, t < n → Z i t = Z j t) ∧ i < j)
theorem ltR_irr (Z : Nat → Nat → It) (n i : Nat) : ¬ LtR Z n i i := by
  rintro (h | ⟨_, h⟩)
  · exact key_irr _ _ h
  · omega
theorem ltR_trans {Z : Nat → Nat → It} {n i j k : Nat} (h : LtR Z n i j) (h' : LtR Z n j k) : LtR Z n i k := by
  rcases h with h | ⟨h, hi⟩ <;> rcases h' with h' | ⟨h', hi'⟩
  · exact .inl (key_trans h h')
  · exact .inl (key_right h h')
  · exact .inl (key_left h h')
  · exact .inr ⟨fun t ht => (h t ht).trans (h' t ht), by omega⟩
theorem ltR_tri (Z : Nat → Nat → It) (n i j : Nat) : LtR Z n i j ∨ i = j ∨ LtR Z n j i := by
  rcases key_tri (Z i) (Z j) n with h | h | h
  · exact .inl (.inl h)
  · rcases Nat.lt_trichotomy i j with e | e | e
    · exact .inl (.inr ⟨h, e⟩)
    · exact .inr (.inl e)
    · exact .inr (.inr (.inr ⟨fun t ht => (h t ht).symm, e⟩))
  · exact .inr (.inr (.inl h))
/-- how two rows stand -/
def ordI (Z : Nat → Nat → It) (n i j : Nat) : Int := if keyC (Z i) (Z j) n = 0 then Lib.compareInt i j else keyC (Z i) (Z j) n
theorem ordI_lt {Z : Nat → Nat → It} {n i j : Nat} (h : LtR Z n i j) : ordI Z n i j = -1 := by
  unfold ordI
  rcases h with h | ⟨h, hi⟩
  · rw [keyC_lt h]; rfl
  · rw [keyC_eq h, if_pos rfl]; exact compareInt_lt (by omega)
theorem ordI_gt {Z : Nat → Nat → It} {n i j : Nat} (h : LtR Z n j i) : ordI Z n i j = 1 := by
  unfold ordI
  rcases h with h | ⟨h, hi⟩
  · rw [keyC_gt h]; rfl
  · rw [keyC_eq (fun t ht => (h t ht).symm), if_pos rfl]; exact compareInt_gt (by omega)
theorem ordI_eq (Z : Nat → Nat → It) (n i : Nat) : ordI Z n i i = 0 := by
  unfold ordI
  rw [keyC_eq (fun _ _ => rfl), if_pos rfl]; exact compareInt_eq rfl
theorem ordI_iff (Z : Nat → Nat → It) (n i j : Nat) : ordI Z n i j < 0 ↔ LtR Z n i j := by
  rcases ltR_tri Z n i j with h | rfl | h
  · rw [ordI_lt h]; exact ⟨fun _ => h, fun _ => by decide⟩
  · rw [ordI_eq]; exact ⟨fun h => absurd h (by decide), fun h => absurd h (ltR_irr _ _ _)⟩
  · rw [ordI_gt h]; exact ⟨fun h => absurd h (by decide), fun h' => absurd (ltR_trans h h') (ltR_irr _ _ _)⟩
/-- the places in that order -/
def ordL (Z : Nat → Nat → It) (n m : Nat) : List Nat := (List.range m).mergeSort (fun x y => !decide (ordI Z n y x < 0))
theorem ordL_perm (Z : Nat → Nat → It) (n m : Nat) : (ordL Z n m).Perm (List.range m) := List.mergeSort_perm _ _
theorem ordL_len (Z : Nat → Nat → It) (n m : Nat) : (ordL Z n m).length = m := by rw [(ordL_perm Z n m).length_eq, List.length_range]
theorem ordL_mem {Z : Nat → Nat → It} {n m x : Nat} : x ∈ ordL Z n m ↔ x < m := by rw [(ordL_perm Z n m).mem_iff, List.mem_range]
theorem ordL_sorted (Z : Nat → Nat → It) (n m : Nat) : (ordL Z n m).Pairwise (LtR Z n) := by
  have h1 : (ordL Z n m).Pairwise (fun x y => (!decide (ordI Z n y x < 0)) = true) := List.pairwise_mergeSort (fun a b c h h' => by
      simp only [Bool.not_eq_true', decide_eq_false_iff_not, ordI_iff] at *
      intro h3
      rcases ltR_tri Z n b c with k | rfl | k
      · exact h (ltR_trans k h3)
      · exact h h3
      · exact h' k) (fun a b => by
      simp only [Bool.or_eq_true, Bool.not_eq_true', decide_eq_false_iff_not, ordI_iff]
      rcases ltR_tri Z n a b with k | rfl | k
      · exact .inl fun k' => ltR_irr _ _ _ (ltR_trans k k')
      · exact .inl (ltR_irr _ _ _)
      · exact .inr fun k' => ltR_irr _ _ _ (ltR_trans k k')) _
  have h2 : (ordL Z n m).Nodup := (ordL_perm Z n m).symm.nodup List.nodup_range
  refine (h1.and h2).imp fun {a b} h => ?_
  obtain ⟨h, hne⟩ := h
  simp only [Bool.not_eq_true', decide_eq_false_iff_not, ordI_iff] at h
  rcases ltR_tri Z n a b with k | k | k
  · exact k
  · exact absurd k hne
  · exact absurd k h
/-- there is no other one -/
theorem ord_unique {Z : Nat → Nat → It} {n m : Nat} {L : List Nat} (hp : L.Perm (List.range m)) (hs : L.Pairwise (LtR Z n)) : L = ordL Z n m :=
  List.Perm.eq_of_pairwise (le := LtR Z n) (fun a b _ _ h h' => absurd (ltR_trans h h') (ltR_irr _ _ _)) hs (ordL_sorted Z n m) (hp.trans (ordL_perm Z n m).symm)
/-- the place at i -/
def ordA (Z : Nat → Nat → It) (n m i : Nat) : Nat := (ordL Z n m).getD i 0
theorem ordA_at {Z : Nat → Nat → It} {n m i : Nat} (hi : i < m) : (ordL Z n m)[i]? = some (ordA Z n m i) := by
  unfold ordA
  have : i < (ordL Z n m).length := by rw [ordL_len]; exact hi
  simp [this]
theorem ordA_lt {Z : Nat → Nat → It} {n m i : Nat} (hi : i < m) : ordA Z n m i < m := by
  have h := List.mem_of_getElem? (ordA_at (Z := Z) (n := n) hi)
  exact ordL_mem.1 h
/-- the order, at places that are there -/
def ordF (Z : Nat → Nat → It) (n m : Nat) (x y : Fin m) : Int := ordI Z n x.val y.val
theorem ordF_swo (Z : Nat → Nat → It) (n m : Nat) : Sort.SWO (ltOf (ordF Z n m)) where
  irrefl x := by
    unfold ltOf ordF
    rw [ordI_eq]; rfl
  trans x y z h1 h2 := by
    unfold ltOf ordF at *
    simp only [decide_eq_true_eq, ordI_iff] at *
    exact ltR_trans h1 h2
  ntrans x y z h1 h2 := by
    unfold ltOf ordF at *
    simp only [decide_eq_false_iff_not, ordI_iff] at *
    intro h3
    rcases ltR_tri Z n y.val z.val with k | k | k
    · exact h2 k
    · rw [← k] at h3; exact h1 h3
    · exact h1 (ltR_trans h3 k)
theorem ordF_tot (Z : Nat → Nat → It) (n m : Nat) (x y : Fin m) (h1 : ltOf (ordF Z n m) x y = false) (h2 : ltOf (ordF Z n m) y x = false) : x = y := by
  unfold ltOf ordF at *
  simp only [decide_eq_false_iff_not, ordI_iff] at *
  rcases ltR_tri Z n x.val y.val with k | k | k
  · exact absurd k h1
  · exact Fin.ext k
  · exact absurd k h2
theorem finRange_map (m : Nat) : (List.finRange m).map Fin.val = List.range m := by
  refine List.ext_getElem (by simp) fun i h1 h2 => ?_
  simp
theorem ordF_list (Z : Nat → Nat → It) (n m : Nat) : ((List.finRange m).mergeSort fun x y => !(ltOf (ordF Z n m)) y x).map Fin.val = ordL Z n m := by
  refine ord_unique ?_ ?_
  · have h := (List.mergeSort_perm (List.finRange m) (fun x y => !(ltOf (ordF Z n m)) y x)).map Fin.val
    rwa [finRange_map] at h
  · have hO := ordF_swo Z n m
    have h1 : ((List.finRange m).mergeSort fun x y => !(ltOf (ordF Z n m)) y x).Pairwise (fun x y => (!(ltOf (ordF Z n m)) y x) = true) := List.pairwise_mergeSort (fun a b c h h' => by
        simp only [Bool.not_eq_true'] at *
        exact hO.ntrans _ _ _ h' h) (fun a b => by
        cases e : ltOf (ordF Z n m) b a
        · simp
        · cases e' : ltOf (ordF Z n m) a b
          · simp
          · have := hO.trans _ _ _ e e'
            rw [hO.irrefl] at this
            exact absurd this (by decide)) _
    have hd : (List.finRange m).Nodup := by
      have := List.nodup_range (n := m)
      rw [← finRange_map] at this
      exact (List.pairwise_map.1 this).imp fun {a b} h e => h (by rw [e])
    have h2 : ((List.finRange m).mergeSort fun x y => !(ltOf (ordF Z n m)) y x).Nodup := (List.mergeSort_perm _ _).symm.nodup hd
    rw [List.pairwise_map]
    refine (h1.and h2).imp fun {a b} h => ?_
    obtain ⟨h, hne⟩ := h
    unfold ltOf ordF at h
    simp only [Bool.not_eq_true', decide_eq_false_iff_not, ordI_iff] at h
    rcases ltR_tri Z n a.val b.val with k | k | k
    · exact k
    · exact absurd (Fin.ext k) hne
    · exact absurd k h
/-- columns that are named twice tell nothing new -/
theorem key_ded (X Y : Nat → It) (P : Nat → Nat) (ko : Nat) : KeyA (fun t => X (dedP P ko t)) (fun t => Y (dedP P ko t)) (keptN (firstB P) ko) ↔ KeyA (fun t => X (P t)) (fun t => Y (P t)) ko := by
  constructor
  · rintro ⟨k, h1, h2, h3⟩
    obtain ⟨k1, k2, k3⟩ := keptAt_mem (m := ko) (Nat.le_refl _) h1
    refine ⟨keptAt (firstB P) ko k, k1, fun t ht => ?_, h3⟩
    obtain ⟨s, s1, s2, s3⟩ := first_of P t
    have h4 : keptN (firstB P) s < k := by
      have h := keptN_monoQ (firstB P) (show s + 1 ≤ keptAt (firstB P) ko k by omega)
      rw [keptN_yes s3, k3] at h
      omega
    have h5 : X (P (keptAt (firstB P) ko (keptN (firstB P) s))) = Y (P (keptAt (firstB P) ko (keptN (firstB P) s))) := h2 _ h4
    rw [keptAt_at (show s < ko by omega) s3, s2] at h5
    exact h5
  · rintro ⟨k, h1, h2, h3⟩
    obtain ⟨s, s1, s2, s3⟩ := first_of P k
    have e : s = k := by
      rcases Nat.lt_or_ge s k with h | h
      · have h4 := h2 s h
        simp only [s2] at h4
        simp only [h4] at h3
        exact absurd h3 (ahead_irr _)
      · omega
    subst e
    have hk : keptN (firstB P) s < keptN (firstB P) ko := by
      have h := keptN_monoQ (firstB P) (show s + 1 ≤ ko by omega)
      rw [keptN_yes s3] at h
      omega
    refine ⟨keptN (firstB P) s, hk, fun t ht => ?_, ?_⟩
    · obtain ⟨k1, _, _⟩ := keptAt_mem (m := ko) (Nat.le_of_lt h1) ht
      exact h2 _ k1
    · show Ahead (X (P (keptAt (firstB P) ko (keptN (firstB P) s)))) (Y (P (keptAt (firstB P) ko (keptN (firstB P) s))))
      rw [keptAt_at h1 s3]
      exact h3
theorem same_ded (X Y : Nat → It) (P : Nat → Nat) (ko : Nat) : (∀ t, t < keptN (firstB P) ko → X (dedP P ko t) = Y (dedP P ko t)) ↔ ∀ t, t < ko → X (P t) = Y (P t) := by
  constructor
  · intro h t ht
    obtain ⟨s, s1, s2, s3⟩ := first_of P t
    have h4 : keptN (firstB P) s < keptN (firstB P) ko := by
      have h := keptN_monoQ (firstB P) (show s + 1 ≤ ko by omega)
      rw [keptN_yes s3] at h
      omega
    have h5 := h _ h4
    unfold dedP at h5
    rwa [keptAt_at (by omega) s3, s2] at h5
  · intro h t ht
    obtain ⟨k1, _, _⟩ := keptAt_mem (m := ko) (Nat.le_refl _) ht
    exact h _ k1
theorem ltR_ded (R : Nat → Row) (P : Nat → Nat) (ko i j : Nat) : LtR (fun i t => (R i).at_ (dedP P ko t)) (keptN (firstB P) ko) i j ↔ LtR (fun i t => (R i).at_ (P t)) ko i j := by
  unfold LtR
  rw [key_ded (R i).at_ (R j).at_ P ko, same_ded (R i).at_ (R j).at_ P ko]
theorem ordL_ded (R : Nat → Row) (P : Nat → Nat) (ko m : Nat) : ordL (fun i t => (R i).at_ (dedP P ko t)) (keptN (firstB P) ko) m = ordL (fun i t => (R i).at_ (P t)) ko m :=
  ord_unique (ordL_perm _ _ _) ((ordL_sorted _ _ _).imp fun {a b} h => (ltR_ded R P ko a b).1 h)
end Go.Proofs.YtkcejelmohameaaGreatDoor
