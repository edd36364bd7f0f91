/-
  CONTRACT of rel.columns: the places of columns, each once.
-/
import Derived.Test.YtkcejelmohameaaGreatDoorRlCMap
import Derived.Test.YtkcejelmohameaaGreatDoorRlCMap
set_option linter.unusedVariables false
namespace Go.Proofs.YtkcejelmohameaaGreatDoor
set_option maxRecDepth 100000
open Go.RowKit Go.WideShapes

/-- is it the first one with its place? -/
def firstB (P : Nat → Nat) (i : Nat) : Bool := (List.range i).all fun t => P t != P i
/-- the places, each once -/
def dedP (P : Nat → Nat) (k j : Nat) : Nat := P (keptAt (firstB P) k j)
theorem firstB_no {P : Nat → Nat} {i : Nat} (h : firstB P i = false) : ∃ t, t < i ∧ P t = P i := by
  unfold firstB at h
  rw [List.all_eq_false] at h
  obtain ⟨t, h1, h2⟩ := h
  exact ⟨t, List.mem_range.1 h1, by simpa using h2⟩
theorem firstB_yes {P : Nat → Nat} {i : Nat} (h : firstB P i = true) : ∀ t, t < i → P t ≠ P i := by
  unfold firstB at h
  rw [List.all_eq_true] at h
  intro t ht
  simpa using h t (List.mem_range.2 ht)
theorem first_of (P : Nat → Nat) (i : Nat) : ∃ t, t ≤ i ∧ P t = P i ∧ firstB P t = true := by
  induction i using Nat.strongRecOn with
  | _ i ih =>
    cases h : firstB P i
    · obtain ⟨t, h1, h2⟩ := firstB_no h
      obtain ⟨s, k1, k2, k3⟩ := ih t h1
      exact ⟨s, by omega, k2.trans h2, k3⟩
    · exact ⟨i, Nat.le_refl _, rfl, h⟩
theorem keptN_monoQ (K : Nat → Bool) {i j : Nat} (h : i ≤ j) : keptN K i ≤ keptN K j := by
  obtain ⟨r, hr⟩ := keptL_pre (K := K) i (j - i)
  rw [show i + (j - i) = j by omega] at hr
  unfold keptN
  rw [hr]
  simp
/-- what is kept at a place was ahead of k, and is kept -/
theorem keptAt_mem {K : Nat → Bool} {k m i : Nat} (hk : k ≤ m) (hi : i < keptN K k) : keptAt K m i < k ∧ K (keptAt K m i) = true ∧ keptN K (keptAt K m i) = i := by
  induction k with
  | zero => exact absurd hi (by simp [keptN, keptL])
  | succ k ih =>
    cases h : K k
    · rw [keptN_no h] at hi
      obtain ⟨h1, h2⟩ := ih (by omega) hi
      exact ⟨by omega, h2⟩
    · rw [keptN_yes h] at hi
      by_cases e : i = keptN K k
      · subst e
        rw [keptAt_at (by omega) h]
        exact ⟨by omega, h, rfl⟩
      · obtain ⟨h1, h2⟩ := ih (by omega) (by omega)
        exact ⟨by omega, h2⟩
def containsB (Q : Nat → Nat) (N : Nat) (x : Int) : Bool := ((List.range N).map fun i => (Q i : Int)).contains x
theorem containsB_iff (Q : Nat → Nat) (N : Nat) (x : Nat) : containsB Q N (x : Int) = true ↔ ∃ i, i < N ∧ Q i = x := by
  unfold containsB
  rw [List.contains_iff_mem, List.mem_map]
  constructor
  · rintro ⟨i, h1, h2⟩
    exact ⟨i, List.mem_range.1 h1, by omega⟩
  · rintro ⟨i, h1, h2⟩
    exact ⟨i, List.mem_range.2 h1, by omega⟩
theorem contains_ded (P : Nat → Nat) {j k : Nat} (hj : j < k) : containsB (dedP P k) (keptN (firstB P) j) (P j : Int) = !firstB P j := by
  cases h : firstB P j
  · obtain ⟨t, h1, h2⟩ := firstB_no h
    obtain ⟨s, k1, k2, k3⟩ := first_of P t
    rw [Bool.not_false, containsB_iff]
    refine ⟨keptN (firstB P) s, ?_, ?_⟩
    · have := keptN_monoQ (firstB P) (show s + 1 ≤ j by omega)
      rw [keptN_yes k3] at this
      omega
    · unfold dedP
      rw [keptAt_at (by omega) k3, k2, h2]
  · rw [Bool.not_true]
    cases hc : containsB (dedP P k) (keptN (firstB P) j) (P j : Int)
    · rfl
    · obtain ⟨i, h1, h2⟩ := (containsB_iff _ _ _).1 hc
      obtain ⟨k1, _, _⟩ := keptAt_mem (m := k) (Nat.le_of_lt hj) h1
      exact absurd h2 (firstB_yes h _ k1)
theorem nodup_le : ∀ (n : Nat) (l : List Nat), l.Nodup → (∀ x ∈ l, x < n) → l.length ≤ n
  | 0, l, _, h => by
    cases l with
    | nil => simp
    | cons a r => exact absurd (h a (by simp)) (by omega)
  | n + 1, l, hd, h => by
    by_cases e : n ∈ l
    · have h1 := nodup_le n (l.erase n) (hd.erase n) (fun x hx => by
        have h2 := (hd.mem_erase_iff).1 hx
        have := h x h2.2
        have := h2.1
        omega)
      rw [List.length_erase_of_mem e] at h1
      omega
    · exact Nat.le_succ_of_le (nodup_le n l hd (fun x hx => by
        have := h x hx
        have : x ≠ n := fun e' => e (e' ▸ hx)
        omega))
theorem ded_le {P : Nat → Nat} {k n : Nat} (h : ∀ i, i < k → P i < n) : keptN (firstB P) k ≤ n := by
  have h1 : ((keptL (firstB P) k).map P).Nodup := by
    unfold keptL
    induction k with
    | zero => simp
    | succ k ih =>
      rw [List.range_succ, List.filter_append, List.map_append]
      cases hf : firstB P k
      · simpa [hf] using ih (fun i hi => h i (by omega))
      · rw [List.nodup_append]
        refine ⟨ih (fun i hi => h i (by omega)), by simp [hf], ?_⟩
        intro a ha b hb
        obtain ⟨t, ht, rfl⟩ := List.mem_map.1 ha
        have hb' : b = P k := by simpa [hf] using hb
        rw [hb']
        exact firstB_yes hf t (by have := (List.mem_filter.1 ht).1; exact List.mem_range.1 this)
  have h2 := nodup_le n _ h1 (fun x hx => by
    obtain ⟨t, ht, rfl⟩ := List.mem_map.1 hx
    exact h t (by have := (List.mem_filter.1 ht).1; exact List.mem_range.1 this))
  simpa [keptN] using h2
theorem contains_is (v : Value) (N : Nat) (Q : Nat → Nat) (x : Int) (w : World) (hv : IntsIs w v N Q) :
    Calls Tryz.prog 191 #[v, .int .i64 x] w fun e w' => e = .returned (.bool (containsB Q N x)) ∧ w' = w := by
  obtain ⟨a, cap, rfl, h1, h2, h3⟩ := hv
  rcases Nat.eq_zero_or_pos N with hz | hz
  · subst hz
    exact Tryz.slices_Contains_int_empty a cap x w
  · obtain ⟨b, off, rfl, _, h5⟩ := h3 hz
    have := Tryz.slices_Contains_int b off N cap ((List.range N).map fun i => (Q i : Int)) x w (by simp) (by unfold maxLen at h2; omega) (fun j hj => by
      have hj' : j < N := by simpa using hj
      rw [h5 j hj']
      simp [List.getD, hj'])
    rwa [List.take_of_length_le (by simp)] at this
set_option maxHeartbeats 3200000 in
theorem columns_yes (c l : Value) (n k : Nat) (C O : Nat → ByteArray) (P : Nat → Nat) (w : World) (hc : StrsIs w c n C) (hl : StrsIs w l k O) (hP : ∀ i, i < k → colI C n (O i) = (P i : Int)) (hk : k * 16 ≤ 140737488351232) :
    Calls Tryz.prog 143 #[c, l] w fun e w' => ∃ v, e = .returned (.tuple #[v, .int .i64 0]) ∧ IntsIs w' v (keptN (firstB P) k) (dedP P k) ∧ (∃ a' c', v = .slice a' (keptN (firstB P) k) c') ∧ Below w.heap.size w w' := by
  have CO : Hid (∀ W s, Below w.heap.size w W → Calls Tryz.prog 122 #[c, .string s] W fun e w' => e = .returned (.tuple #[.int .i64 (colV C n s), .int .i64 (colF C n s)]) ∧ w' = W) := fun W s hW => column_is c n C s W (hc.below hW)
  obtain ⟨a, cap, rfl, _⟩ := hc
  obtain ⟨la, lcap, rfl, l1, l2, _, l3⟩ := hl
  have hkk : k ≤ 9223372036854775807 := by omega
  have HL : Hid (∀ W i, Below w.heap.size w W → i < k → ∃ b off, la = some ⟨b, off, none⟩ ∧ b < w.heap.size ∧ W.cell? ⟨b, off + i, none⟩ = some (.string (O i))) := fun W i hW hi => by
    obtain ⟨b, off, e1, e2, e3⟩ := l3 (by omega)
    exact ⟨b, off, e1, e2, (hW.cell (p := ⟨b, off + i, none⟩) e2).trans (e3 i hi)⟩
  have HP : Hid (∀ i, i < k → colI C n (O i) = (P i : Int)) := hP
  obtain ⟨i0, hi0, hz0, hz1, hz2⟩ := info_parts infoInt
  clear l2 l3 hP
  go_enter Tryz.func143, Tryz.ntmps143
  go_wp2
  go_loopw [6, 13] (fun v i wr => ∃ j : Nat, j ≤ k ∧ i = .int .i64 j ∧ wr.ownsRow w.heap.size 3 1 v (keptN (firstB P) j) (intCells (dedP P k) (keptN (firstB P) j)) ∧ Below w.heap.size w wr) (fun _ i _ => k - (intOf i).toNat)
  case atStart => exact ⟨0, Nat.zero_le _, rfl, World.ownsRow_nil _ _ _ _, Below.refl _ _⟩
  case round =>
    obtain ⟨j, hj, rfl, hv, hbr⟩ := hrel
    obtain ⟨va, vc, rfl⟩ := own_shape hv
    have HV : Hid (wr.ownsRow w.heap.size 3 1 (.slice va (keptN (firstB P) j) vc) (keptN (firstB P) j) (intCells (dedP P k) (keptN (firstB P) j))) := hv
    have HB : Hid (Below w.heap.size w wr) := hbr
    have hzr : w.heap.size ≤ wr.heap.size := hbr.size
    clear hv hbr
    by_cases hlt : j < k
    · obtain ⟨b, off, rfl, hb0, e0⟩ := HL.out wr j HB.out hlt
      have hji : (j : Int) < (k : Int) := by omega
      have hkc : keptN (firstB P) j ≤ j := keptN_le _ _
      have CJ : Hid (Calls Tryz.prog 122 #[.slice a n cap, .string (O j)] wr fun e w' => e = .returned (.tuple #[.int .i64 (P j : Int), .int .i64 0]) ∧ w' = wr) := by
        have h := CO.out wr (O j) HB.out
        rwa [(colF_of (HP.out j hlt)).1, (colF_of (HP.out j hlt)).2] at h
      have CX : Hid (Calls Tryz.prog 191 #[.slice va (keptN (firstB P) j) vc, .int .i64 (P j : Int)] wr fun e w' => e = .returned (.bool (!firstB P j)) ∧ w' = wr) := by
        have h := contains_is _ _ _ (P j : Int) wr (ints_of HV.out)
        rwa [contains_ded P hlt] at h
      cases hf : firstB P j
      · have HN : Hid (keptN (firstB P) (j + 1) = keptN (firstB P) j) := keptN_no hf
        rw [hf, Bool.not_false] at CX
        generalize O j = s at *
        generalize P j = p at *
        go_wp2_with (first
          | (go_at_call 122; refine CJ.out.mono ?_; rintro e w4 ⟨rfl, rfl⟩)
          | (go_at_call 191; refine CX.out.mono ?_; rintro e w5 ⟨rfl, rfl⟩))
        go_roundw
        case rel => exact ⟨j + 1, by omega, by go_num, by rw [HN.out]; exact HV.out, HB.out⟩
        case measure => simp [intOf]; omega
      · have HN : Hid (keptN (firstB P) (j + 1) = keptN (firstB P) j + 1) := keptN_yes hf
        have HE : Hid (intCells (dedP P k) (keptN (firstB P) j + 1) = intCells (dedP P k) (keptN (firstB P) j) ++ elemN (P j)) := by
          have h := intCells_succ (dedP P k) (keptN (firstB P) j)
          rw [show dedP P k (keptN (firstB P) j) = P j by unfold dedP; rw [keptAt_at hlt hf]] at h
          exact h
        rw [hf, Bool.not_true] at CX
        generalize O j = s at *
        generalize P j = p at *
        go_wp2_with (first
          | (go_at_call 122; refine CJ.out.mono ?_; rintro e w4 ⟨rfl, rfl⟩)
          | (go_at_call 191; refine CX.out.mono ?_; rintro e w5 ⟨rfl, rfl⟩)
          | (at_builtin; refine wpList_append_own _ rfl (.tmp 30) (.tmp 32) 34 rfl w.heap.size 3 i0 _ 1 8 Tryz.underlying34 hi0 hz0 hz1 hz2 rfl (by decide) _ _ _ rfl (HV.out.alloc _) ⟨w5.heap.size, 0, none⟩ 1 1 (elemN p) rfl rfl (elemN_in p) (elemN_one _) (by unfold maxLen; omega) (by omega) (by simp <;> omega) ?_; intro v6 w6 hown6 hgrow6 _; obtain ⟨va6, vc6, rfl⟩ := own_shape hown6; have HV6 : Hid (w6.ownsRow w.heap.size 3 1 (.slice va6 (keptN (firstB P) j + 1) vc6) (keptN (firstB P) j + 1) (intCells (dedP P k) (keptN (firstB P) j) ++ elemN p)) := hown6; have HB6 : Hid (Below w.heap.size w w6) := (HB.out.alloc (by omega) _).grown hgrow6 (by simp <;> omega) (fun z hz => (HV.out.lt z hz).1); clear hown6 hgrow6))
        go_roundw
        case rel => exact ⟨j + 1, by omega, by go_num, by rw [HN.out, HE.out]; exact HV6.out, HB6.out⟩
        case measure => simp [intOf]; omega
    · have e : j = k := by omega
      subst e
      go_wp2
      exact bodyPost_ret (v := .tuple #[.slice va (keptN (firstB P) j) vc, .int .i64 0]) (by simp [results, Tryz.results143, go_sem]) rfl ⟨_, rfl, ints_of HV.out, ⟨_, _, rfl⟩, HB.out⟩
set_option maxHeartbeats 3200000 in
theorem columns_no (c l : Value) (n k : Nat) (C O : Nat → ByteArray) (P : Nat → Nat) (w : World) (hc : StrsIs w c n C) (hl : StrsIs w l k O) (t : Nat) (ht : t < k) (hP : ∀ i, i < t → colI C n (O i) = (P i : Int)) (hN : colI C n (O t) = -1) (hk : k * 16 ≤ 140737488351232) :
    Calls Tryz.prog 143 #[c, l] w fun e w' => e = .returned (.tuple #[.slice none 0 0, .int .i64 9]) ∧ Below w.heap.size w w' := by
  have CO : Hid (∀ W s, Below w.heap.size w W → Calls Tryz.prog 122 #[c, .string s] W fun e w' => e = .returned (.tuple #[.int .i64 (colV C n s), .int .i64 (colF C n s)]) ∧ w' = W) := fun W s hW => column_is c n C s W (hc.below hW)
  obtain ⟨a, cap, rfl, _⟩ := hc
  obtain ⟨la, lcap, rfl, l1, l2, _, l3⟩ := hl
  have hkk : k ≤ 9223372036854775807 := by omega
  have HL : Hid (∀ W i, Below w.heap.size w W → i < k → ∃ b off, la = some ⟨b, off, none⟩ ∧ b < w.heap.size ∧ W.cell? ⟨b, off + i, none⟩ = some (.string (O i))) := fun W i hW hi => by
    obtain ⟨b, off, e1, e2, e3⟩ := l3 (by omega)
    exact ⟨b, off, e1, e2, (hW.cell (p := ⟨b, off + i, none⟩) e2).trans (e3 i hi)⟩
  have HP : Hid (∀ i, i < t → colI C n (O i) = (P i : Int)) := hP
  have HNN : Hid (colI C n (O t) = -1) := hN
  obtain ⟨i0, hi0, hz0, hz1, hz2⟩ := info_parts infoInt
  clear l2 l3 hP hN
  go_enter Tryz.func143, Tryz.ntmps143
  go_wp2
  go_loopw [6, 13] (fun v i wr => ∃ j : Nat, j ≤ t ∧ i = .int .i64 j ∧ wr.ownsRow w.heap.size 3 1 v (keptN (firstB P) j) (intCells (dedP P t) (keptN (firstB P) j)) ∧ Below w.heap.size w wr) (fun _ i _ => t - (intOf i).toNat)
  case atStart => exact ⟨0, Nat.zero_le _, rfl, World.ownsRow_nil _ _ _ _, Below.refl _ _⟩
  case round =>
    obtain ⟨j, hj, rfl, hv, hbr⟩ := hrel
    obtain ⟨va, vc, rfl⟩ := own_shape hv
    have HV : Hid (wr.ownsRow w.heap.size 3 1 (.slice va (keptN (firstB P) j) vc) (keptN (firstB P) j) (intCells (dedP P t) (keptN (firstB P) j))) := hv
    have HB : Hid (Below w.heap.size w wr) := hbr
    have hzr : w.heap.size ≤ wr.heap.size := hbr.size
    clear hv hbr
    obtain ⟨b, off, rfl, hb0, e0⟩ := HL.out wr j HB.out (by omega)
    have hji : (j : Int) < (k : Int) := by omega
    by_cases hlt : j < t
    · have hkc : keptN (firstB P) j ≤ j := keptN_le _ _
      have CJ : Hid (Calls Tryz.prog 122 #[.slice a n cap, .string (O j)] wr fun e w' => e = .returned (.tuple #[.int .i64 (P j : Int), .int .i64 0]) ∧ w' = wr) := by
        have h := CO.out wr (O j) HB.out
        rwa [(colF_of (HP.out j hlt)).1, (colF_of (HP.out j hlt)).2] at h
      have CX : Hid (Calls Tryz.prog 191 #[.slice va (keptN (firstB P) j) vc, .int .i64 (P j : Int)] wr fun e w' => e = .returned (.bool (!firstB P j)) ∧ w' = wr) := by
        have h := contains_is _ _ _ (P j : Int) wr (ints_of HV.out)
        rwa [contains_ded P hlt] at h
      cases hf : firstB P j
      · have HN : Hid (keptN (firstB P) (j + 1) = keptN (firstB P) j) := keptN_no hf
        rw [hf, Bool.not_false] at CX
        generalize O j = s at *
        generalize P j = p at *
        go_wp2_with (first
          | (go_at_call 122; refine CJ.out.mono ?_; rintro e w4 ⟨rfl, rfl⟩)
          | (go_at_call 191; refine CX.out.mono ?_; rintro e w5 ⟨rfl, rfl⟩))
        go_roundw
        case rel => exact ⟨j + 1, by omega, by go_num, by rw [HN.out]; exact HV.out, HB.out⟩
        case measure => simp [intOf]; omega
      · have HN : Hid (keptN (firstB P) (j + 1) = keptN (firstB P) j + 1) := keptN_yes hf
        have HE : Hid (intCells (dedP P t) (keptN (firstB P) j + 1) = intCells (dedP P t) (keptN (firstB P) j) ++ elemN (P j)) := by
          have h := intCells_succ (dedP P t) (keptN (firstB P) j)
          rw [show dedP P t (keptN (firstB P) j) = P j by unfold dedP; rw [keptAt_at hlt hf]] at h
          exact h
        rw [hf, Bool.not_true] at CX
        generalize O j = s at *
        generalize P j = p at *
        go_wp2_with (first
          | (go_at_call 122; refine CJ.out.mono ?_; rintro e w4 ⟨rfl, rfl⟩)
          | (go_at_call 191; refine CX.out.mono ?_; rintro e w5 ⟨rfl, rfl⟩)
          | (at_builtin; refine wpList_append_own _ rfl (.tmp 30) (.tmp 32) 34 rfl w.heap.size 3 i0 _ 1 8 Tryz.underlying34 hi0 hz0 hz1 hz2 rfl (by decide) _ _ _ rfl (HV.out.alloc _) ⟨w5.heap.size, 0, none⟩ 1 1 (elemN p) rfl rfl (elemN_in p) (elemN_one _) (by unfold maxLen; omega) (by omega) (by simp <;> omega) ?_; intro v6 w6 hown6 hgrow6 _; obtain ⟨va6, vc6, rfl⟩ := own_shape hown6; have HV6 : Hid (w6.ownsRow w.heap.size 3 1 (.slice va6 (keptN (firstB P) j + 1) vc6) (keptN (firstB P) j + 1) (intCells (dedP P t) (keptN (firstB P) j) ++ elemN p)) := hown6; have HB6 : Hid (Below w.heap.size w w6) := (HB.out.alloc (by omega) _).grown hgrow6 (by simp <;> omega) (fun z hz => (HV.out.lt z hz).1); clear hown6 hgrow6))
        go_roundw
        case rel => exact ⟨j + 1, by omega, by go_num, by rw [HN.out, HE.out]; exact HV6.out, HB6.out⟩
        case measure => simp [intOf]; omega
    · have e : j = t := by omega
      subst e
      have CJ : Hid (Calls Tryz.prog 122 #[.slice a n cap, .string (O j)] wr fun e w' => e = .returned (.tuple #[.int .i64 0, .int .i64 9]) ∧ w' = wr) := by
        have h := CO.out wr (O j) HB.out
        rwa [(colF_no HNN.out).1, (colF_no HNN.out).2] at h
      generalize O j = s at *
      go_wp2_with (first
          | (go_at_call 122; refine CJ.out.mono ?_; rintro e w4 ⟨rfl, rfl⟩))
      exact bodyPost_ret (v := .tuple #[.slice none 0 0, .int .i64 9]) (by simp [results, Tryz.results143, go_sem]) rfl ⟨rfl, HB.out⟩
end Go.Proofs.YtkcejelmohameaaGreatDoor
