/-
  RANKS, PLAINLY: the how many-th of its part each row is, and how a count along the order finds it.
-/
import Derived.Test.YtkcejelmohameaaGreatDoorRlUniqI
import Derived.Deep.RegionLaw
import Derived.Test.YtkcejelmohameaaGreatDoorRlOrd
import Derived.Test.YtkcejelmohameaaGreatDoorRlCMap
set_option linter.unusedVariables false
namespace Go.Proofs.YtkcejelmohameaaGreatDoor
set_option maxRecDepth 100000
open Go.RowKit Go.WideShapes

theorem SetIs.look_all {w : World} {b n : Nat} {T : Value → Prop} (h : SetIs w b n T) {v : Value} {l : Lit} (hk : keyOf Tryz.prog 165 v = some l) :
    ∃ r : Bool, (r = true ↔ T v) ∧ ∀ W : World, W.heap[b]? = w.heap[b]? → (Instr.lookup 162 (.map (some b)) v true).run Tryz.prog W = .ok (.tuple #[.agg #[], .bool r]) W := by
  obtain ⟨r, _, h2⟩ := h.look hk
  refine ⟨r, h2, fun W hW => ?_⟩
  obtain ⟨r', h3, h4⟩ := (h.keep hW).look hk
  rw [h3, show r' = r by rw [Bool.eq_iff_iff, h4, h2]]
theorem key_call (u pv : Value) (n np : Nat) (X : Nat → It) (P : Nat → Nat) (w : World) (hu : ItsIs w u n X) (hp : IntsIs w pv np P) (hP : ∀ i, i < np → P i < n) (h8 : np ≤ 8) :
    ∀ W, Below w.heap.size w W → Calls Tryz.prog 144 #[u, pv] W fun e w' => ∃ v, e = .returned v ∧ v = keyV (keyX X P np) ∧ Below W.heap.size W w' := fun W hW =>
  (keyOf_is u pv n np X P W (hu.below hW) (hp.below hW) hP h8).mono (fun e w' ⟨h1, h2⟩ => ⟨_, h1, rfl, h2⟩)
set_option maxHeartbeats 3200000 in
theorem except1_is (u pv : Value) (n np gp gm M k : Nat) (X : Nat → It) (P : Nat → Nat) (T : Value → Prop) (w : World) (hu : ItsIs w u n X) (hp : IntsIs w pv np P) (hP : ∀ i, i < np → P i < n) (h8 : np ≤ 8)
    (hgp : gp < w.heap.size) (hgm : gm < w.heap.size) (hcp : w.cell? ⟨gp, 0, none⟩ = some pv) (hcm : w.cell? ⟨gm, 0, none⟩ = some (.map (some M))) (hs : SetIs w M k T) (l : Lit) (hkey : keyOf Tryz.prog 165 (keyV (keyX X P np)) = some l) :
    Calls Tryz.prog 145 #[u, .pointer (some ⟨gm, 0, none⟩), .pointer (some ⟨gp, 0, none⟩)] w fun e w' => ∃ r : Bool, e = .returned (.bool r) ∧ (r = true ↔ ¬ T (keyV (keyX X P np))) ∧ Below w.heap.size w w' := by
  have CK : Hid (∀ W, Below w.heap.size w W → Calls Tryz.prog 144 #[u, pv] W fun e w' => ∃ v, e = .returned v ∧ v = keyV (keyX X P np) ∧ Below W.heap.size W w') := key_call u pv n np X P w hu hp hP h8
  have HS : Hid (SetIs w M k T) := hs
  have HM : Hid (M < w.heap.size) := hs.lt
  obtain ⟨ua, ucap, rfl, _⟩ := hu
  obtain ⟨pa, pcap, rfl, _⟩ := hp
  clear hs hP
  generalize keyX X P np = Y at *
  go_enter Tryz.func145, Tryz.ntmps145
  go_upto_region 1 with fail
  go_region_law (first
    | (refine step_call rfl 144 #[.slice ua n ucap, .slice pa np pcap] (by simp [go_sem]) (fun v w' => v = keyV Y ∧ Below _ _ w') (CK.out _ (by first | exact (Below.refl _ _).drew | exact (((Below.refl _ _).drew).alloc (by simp) _))) ?_; rintro v1 w1 ⟨rfl, hb1⟩; have hbw : Below w.heap.size w w1 := (by first | exact (Below.refl _ _).drew.trans hb1 | exact (((Below.refl _ _).drew).alloc (by simp) _).trans (hb1.mono (by simp))); have HB1 : Hid (Below w.heap.size w w1) := hbw; have y0 := (hbw.cell (p := ⟨gm, 0, none⟩) hgm).trans hcm; have y1 := (hbw.cell (p := ⟨gp, 0, none⟩) hgp).trans hcp; have y2 : gm < w1.heap.size := Nat.lt_of_lt_of_le hgm hbw.size; have y3 : gp < w1.heap.size := Nat.lt_of_lt_of_le hgp hbw.size; have hM1 : M < w1.heap.size := Nat.lt_of_lt_of_le HM.out hbw.size; obtain ⟨r, hr, hlk⟩ := (HS.out.keep (w' := w1) (hbw.block M HM.out)).look_all hkey; have hl1 := hlk w1 rfl; have hl2 := (fun o => hlk (w1.alloc o) (((Below.refl w1.heap.size w1).alloc (Nat.le_refl _) o).block M hM1)); have HRR : Hid (r = true ↔ T (keyV Y)) := hr; clear hb1 hbw hr hlk hM1))
  all_goals
    go_wp2_with fail
    go_ret
    refine ⟨!r, rfl, ?_, by first | exact HB1.out | exact HB1.out.alloc HB1.out.size _⟩
    rw [← HRR.out]
    cases r <;> simp
end Go.Proofs.YtkcejelmohameaaGreatDoor
set_option linter.unusedVariables false
namespace Go.Proofs.YtkcejelmohameaaGreatDoor
set_option maxRecDepth 100000
open Go.RowKit

/-- how many of the first k are of a part -/
def cntB (pz : Nat → It) (σ : Nat → Nat) (k : Nat) (x : It) : Nat := ((List.range k).filter fun t => itB (pz (σ t)) x).length
theorem itB_comm (x y : It) : itB x y = itB y x := by
  rw [Bool.eq_iff_iff, itB_iff, itB_iff]
  exact ⟨fun h => h.symm, fun h => h.symm⟩
theorem cntB_succ (pz : Nat → It) (σ : Nat → Nat) (k : Nat) (y : It) : cntB pz σ (k + 1) y = if itB y (pz (σ k)) = true then cntB pz σ k (pz (σ k)) + 1 else cntB pz σ k y := by
  unfold cntB
  rw [List.range_succ, List.filter_append, List.length_append]
  by_cases h : itB y (pz (σ k)) = true
  · have e := itB_iff.1 h
    subst e
    rw [if_pos h]
    simp [h]
  · rw [if_neg h]
    have h' : itB (pz (σ k)) y = false := by rw [itB_comm]; simpa using h
    simp [h']
theorem cntB_le (pz : Nat → It) (σ : Nat → Nat) (k : Nat) (x : It) : cntB pz σ k x ≤ k := by
  have := List.length_filter_le (fun t => itB (pz (σ t)) x) (List.range k)
  simpa [cntB] using this
/-- the how many-th of its part a row is -/
def rkF (Z : Nat → Nat → It) (n : Nat) (pz : Nat → It) (m i : Nat) : Nat := ((List.range m).filter fun j => itB (pz j) (pz i) && decide (ordI Z n j i < 0)).length + 1
theorem range_map {L : List Nat} {k : Nat} (hk : k ≤ L.length) : (List.range k).map (fun t => L.getD t 0) = L.take k := by
  refine List.ext_getElem (by simp; omega) fun i h1 h2 => ?_
  simp at h1 h2
  have : i < L.length := by omega
  simp [this]
theorem rank_eq (Z : Nat → Nat → It) (n : Nat) (pz : Nat → It) (m t : Nat) (ht : t < m) : cntB pz (ordA Z n m) (t + 1) (pz (ordA Z n m t)) = rkF Z n pz m (ordA Z n m t) := by
  have hl := ordL_len Z n m
  have hs := ordL_sorted Z n m
  have hp := ordL_perm Z n m
  have hx : (ordL Z n m)[t]? = some (ordA Z n m t) := ordA_at ht
  have h1 : cntB pz (ordA Z n m) (t + 1) (pz (ordA Z n m t)) = (((ordL Z n m).take (t + 1)).filter fun j => itB (pz j) (pz (ordA Z n m t))).length := by
    rw [← range_map (L := ordL Z n m) (k := t + 1) (by omega), List.filter_map, List.length_map]
    rfl
  rw [h1]
  unfold rkF
  generalize ordA Z n m t = x at *
  rw [← (hp.filter fun j => itB (pz j) (pz x) && decide (ordI Z n j x < 0)).length_eq]
  generalize ordL Z n m = L at *
  have ht' : t < L.length := by omega
  have hxx : L[t] = x := by rw [List.getElem?_eq_getElem ht'] at hx; exact Option.some.inj hx
  have hsplit : L = L.take t ++ x :: L.drop (t + 1) := by
    conv => lhs; rw [← List.take_append_drop t L, List.drop_eq_getElem_cons ht', hxx]
  have h2 : L.take (t + 1) = L.take t ++ [x] := by rw [List.take_succ_eq_append_getElem ht', hxx]
  rw [h2, List.filter_append, List.length_append]
  have h3 : ([x].filter fun j => itB (pz j) (pz x)).length = 1 := by
    have : itB (pz x) (pz x) = true := itB_iff.2 rfl
    simp [this]
  rw [h3]
  congr 1
  have hA : ∀ y ∈ L.take t, LtR Z n y x := fun y hy => by
    obtain ⟨j, hj, e⟩ := List.mem_iff_getElem.1 hy
    rw [List.length_take] at hj
    rw [List.getElem_take] at e
    have h := List.pairwise_iff_getElem.1 hs j t (by omega) ht' (by omega)
    rw [e, hxx] at h
    exact h
  have hB : ∀ y ∈ L.drop (t + 1), ¬ LtR Z n y x := fun y hy h' => by
    obtain ⟨j, hj, e⟩ := List.mem_iff_getElem.1 hy
    rw [List.length_drop] at hj
    rw [List.getElem_drop] at e
    have h := List.pairwise_iff_getElem.1 hs t (t + 1 + j) ht' (by omega) (by omega)
    rw [e, hxx] at h
    exact ltR_irr _ _ _ (ltR_trans h h')
  conv => rhs; rw [hsplit, List.filter_append, List.length_append]
  have h4 : ((x :: L.drop (t + 1)).filter fun j => itB (pz j) (pz x) && decide (ordI Z n j x < 0)) = [] := by
    rw [List.filter_eq_nil_iff]
    intro y hy
    rcases List.mem_cons.1 hy with rfl | hy
    · rw [ordI_eq]; simp
    · have : decide (ordI Z n y x < 0) = false := decide_eq_false (fun h => hB y hy ((ordI_iff Z n y x).1 h))
      rw [this]; simp
  rw [h4, List.length_nil, Nat.add_zero]
  congr 1
  refine List.filter_congr fun y hy => ?_
  have : decide (ordI Z n y x < 0) = true := decide_eq_true ((ordI_iff Z n y x).2 (hA y hy))
  rw [this]; simp
theorem ordA_onto (Z : Nat → Nat → It) (n m i : Nat) (hi : i < m) : ∃ t, t < m ∧ ordA Z n m t = i := by
  have h : i ∈ ordL Z n m := ordL_mem.2 hi
  obtain ⟨j, hj, e⟩ := List.mem_iff_getElem.1 h
  rw [ordL_len] at hj
  refine ⟨j, hj, ?_⟩
  unfold ordA
  rw [List.getD_eq_getElem?_getD, List.getElem?_eq_getElem (by rw [ordL_len]; exact hj), Option.getD_some, e]
theorem ordA_inj {Z : Nat → Nat → It} {n m s t : Nat} (hs : s < m) (ht : t < m) (h : ordA Z n m s = ordA Z n m t) : s = t := by
  have hd : (ordL Z n m).Nodup := (ordL_perm Z n m).symm.nodup List.nodup_range
  have h1 := ordA_at (Z := Z) (n := n) hs
  have h2 := ordA_at (Z := Z) (n := n) ht
  rw [h] at h1
  have hs' : s < (ordL Z n m).length := by rw [ordL_len]; exact hs
  exact (List.getElem?_inj hs' hd).1 (h1.trans h2.symm)
end Go.Proofs.YtkcejelmohameaaGreatDoor
