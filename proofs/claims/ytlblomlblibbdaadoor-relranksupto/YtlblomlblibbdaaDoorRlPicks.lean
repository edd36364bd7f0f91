/-
  CONTRACTS of the document's answers picks (a row's items at some places) and colsAt (the places of columns).
-/
import Derived.Test.YtlblomlblibbdaaDoorRlInts
import Derived.Test.YtlblomlblibbdaaDoorRlLists
import Derived.Deep.QuietTactic
import Derived.BigQuiet
import Derived.Deep.RegionHeld3
set_option linter.unusedVariables false
namespace Go.Proofs.YtlblomlblibbdaaDoor
set_option maxRecDepth 100000
open Go.RowKit Go.WideShapes

set_option maxHeartbeats 1600000 in
theorem picks_is (u p : Value) (n k : Nat) (X : Nat → It) (P : Nat → Nat) (w : World) (hu : ItsIs w u n X) (hp : IntsIs w p k P) (hP : ∀ i, i < k → P i < n) (hk : k * 32 ≤ 140737488351232) :
    Calls Tryd.prog 22 #[u, p] w fun e w' => ∃ v, e = .returned v ∧ ItsApart w' w.heap.size none v k (fun i => X (P i)) ∧ (∃ a' c', v = .slice a' k c') ∧ Below w.heap.size w w' := by
  obtain ⟨ua, ucap, rfl, u1, u2, _, u3⟩ := hu
  obtain ⟨pa, pcap, rfl, p1, p2, p3⟩ := hp
  have HU : Hid (∀ W i, Below w.heap.size w W → i < k → ∃ b off pb po, ua = some ⟨b, off, none⟩ ∧ pa = some ⟨pb, po, none⟩ ∧ b < w.heap.size ∧ pb < w.heap.size ∧ W.cell? ⟨pb, po + i, none⟩ = some (.int .i64 (P i : Int)) ∧ W.cell? ⟨b, off + P i * 3, none⟩ = some (.int .i64 (X (P i)).kind) ∧ W.cell? ⟨b, off + P i * 3 + 1, none⟩ = some (.int .i64 (X (P i)).n) ∧ W.cell? ⟨b, off + P i * 3 + 2, none⟩ = some (.string (X (P i)).s) ∧ P i < n) := fun W i hW hi => by
    have hPi := hP i hi
    obtain ⟨b, off, e1, e2, e3⟩ := u3 (by omega)
    obtain ⟨pb, po, d1, d2, d3⟩ := p3 (by omega)
    obtain ⟨x0, x1, x2⟩ := e3 (P i) hPi
    exact ⟨b, off, pb, po, e1, d1, e2, d2, (hW.cell (p := ⟨pb, po + i, none⟩) d2).trans (d3 i hi), (hW.cell (p := ⟨b, off + P i * 3, none⟩) e2).trans x0, (hW.cell (p := ⟨b, off + P i * 3 + 1, none⟩) e2).trans x1, (hW.cell (p := ⟨b, off + P i * 3 + 2, none⟩) e2).trans x2, hPi⟩
  have hnn : n ≤ 9223372036854775807 := by unfold maxLen at u2; omega
  obtain ⟨i0, hi0, hz0, hz1, hz2⟩ := info_parts infoItem
  clear u2 u3 p2 p3 hP
  go_enter Tryd.func22, Tryd.ntmps22
  go_wp2
  go_loopw [5, 6] (fun v i wr => ∃ j : Nat, j ≤ k ∧ i = .int .i64 j ∧ wr.ownsRow w.heap.size 38 3 v j (itCells (fun i => X (P i)) j) ∧ Below w.heap.size w wr) (fun _ i _ => k - (intOf i).toNat)
  case atStart => exact ⟨0, Nat.zero_le _, rfl, World.ownsRow_nil _ _ _ _, Below.refl _ _⟩
  case round =>
    obtain ⟨j, hj, rfl, hv, hbr⟩ := hrel
    obtain ⟨va, vc, rfl⟩ := own_shape hv
    have HV : Hid (wr.ownsRow w.heap.size 38 3 (.slice va j vc) j (itCells (fun i => X (P i)) j)) := hv
    have HB : Hid (Below w.heap.size w wr) := hbr
    have hzr : w.heap.size ≤ wr.heap.size := hbr.size
    clear hv hbr
    by_cases hlt : j < k
    · obtain ⟨b, off, pb, po, rfl, rfl, hb0, hpb0, e0, e1, e2, e3, hPn⟩ := HU.out wr j HB.out hlt
      have hji : (j : Int) < (k : Int) := by omega
      have hpi : (P j : Int) < (n : Int) := by omega
      have HE : Hid (itCells (fun i => X (P i)) (j + 1) = itCells (fun i => X (P i)) j ++ elemI (X (P j))) := itCells_succ (fun i => X (P i)) j
      generalize X (P j) = x at *
      generalize P j = q at *
      go_wp2_with (first | (at_builtin; refine wpList_append_own _ rfl (.tmp 13) (.tmp 21) 32 rfl w.heap.size 38 i0 _ 3 32 Tryd.underlying32 hi0 hz0 hz1 hz2 rfl (by decide) _ _ _ rfl (HV.out.alloc _) ⟨wr.heap.size, 0, none⟩ 1 1 (elemI x) rfl rfl (elemI_in x) (elemI_one _) (by unfold maxLen; omega) (by omega) (by simp <;> omega) ?_; intro v6 w6 hown6 hgrow6 _; obtain ⟨va6, vc6, rfl⟩ := own_shape hown6; have HV6 : Hid (w6.ownsRow w.heap.size 38 3 (.slice va6 (j + 1) vc6) (j + 1) (itCells (fun i => X (P i)) j ++ elemI x)) := hown6; have HB6 : Hid (Below w.heap.size w w6) := (HB.out.alloc hzr _).grown hgrow6 (by simp <;> omega) (fun z hz => (HV.out.lt z hz).1); clear hown6 hgrow6))
      go_roundw
      case rel => exact ⟨j + 1, by omega, by go_num, by rw [HE.out]; exact HV6.out, HB6.out⟩
      case measure => simp [intOf]; omega
    · have e : j = k := by omega
      subst e
      go_wp2
      go_ret
      exact ⟨_, rfl, its_new HV.out (fun k h => by cases h), ⟨_, _, rfl⟩, HB.out⟩

/-- the cells of numbers -/
def intCells (P : Nat → Nat) (n : Nat) : List Value := (List.range n).map fun j => .int .i64 (P j : Int)
def elemN (p : Nat) : List Value := [.int .i64 (p : Int)]
theorem intCells_succ (P : Nat → Nat) (n : Nat) : intCells P (n + 1) = intCells P n ++ elemN (P n) := by
  unfold intCells elemN
  simp [List.range_succ]
theorem elemN_in {w : World} (p : Nat) : ∀ j u, (elemN p)[j]? = some u → (w.alloc (.cells #[.int .i64 (p : Int)] 3)).cell? ((⟨w.heap.size, 0, none⟩ : Addr).add j) = some u := by
  intro j u hj
  have hj3 : j < 1 := (List.getElem?_eq_some_iff.1 hj).1
  match j, hj3 with
  | 0, _ => simp [elemN] at hj; subst hj; simp [Addr.add]
theorem elemN_one (p : Nat) : ∀ u ∈ elemN p, u.oneCell' = true := by
  intro u hu
  simp [elemN] at hu
  subst hu; rfl
theorem ints_of {w : World} {base : Nat} {v : Value} {n : Nat} {P : Nat → Nat} (h : w.ownsRow base 3 1 v n (intCells P n)) : IntsIs w v n P := by
  have h8 := h
  obtain ⟨hl, ⟨rfl, h2⟩ | ⟨b, cap, cur, rfl, q1, q2, q3, q4, _⟩⟩ := h
  · subst h2
    exact ⟨none, 0, rfl, Nat.le_refl _, Nat.zero_le _, fun h => absurd h (Nat.lt_irrefl _)⟩
  · refine ⟨_, cap, rfl, q3, q4, fun h0 => ⟨b, 0, rfl, (Array.getElem?_eq_some_iff.1 q2).1, fun i hi => ?_⟩⟩
    rw [Nat.zero_add, h8.cellAt _ (by omega)]
    simp [intCells, hi]
theorem own_below {w w' : World} {base : Nat} {e : TypeId} {size : Nat} {v : Value} {n : Nat} {xs : List Value} (h : w.ownsRow base e size v n xs) (hb : Below w.heap.size w w') : w'.ownsRow base e size v n xs := by
  refine ⟨h.1, ?_⟩
  rcases h.2 with h1 | ⟨g, cap, cur, h1, h2, h3, h4⟩
  · exact .inl h1
  · refine .inr ⟨g, cap, cur, h1, h2, ?_, h4⟩
    rw [hb.block g (Array.getElem?_eq_some_iff.1 h3).1]
    exact h3
theorem infoInt : (Tryd.prog.info? 3).map (fun i => (i.zero, i.size, i.bytes)) = some (some (.int .i64 0), 1, 8) := by kernel_rfl
set_option maxHeartbeats 3200000 in
/-- every column is there -/
theorem colsAt_yes (c q l : Value) (n m k : Nat) (C O : Nat → ByteArray) (P : Nat → Nat) (w : World) (hc : StrsIs w c n C) (hq : ∃ a x, q = .slice a m x) (hl : StrsIs w l k O) (hP : ∀ i, i < k → colI C n (O i) = (P i : Int)) (hk : k * 16 ≤ 140737488351232) :
    Calls Tryd.prog 20 #[.agg #[c, q], l] w fun e w' => ∃ v, e = .returned (.tuple #[v, .bool true]) ∧ IntsIs w' v k P ∧ (∃ a' c', v = .slice a' k c') ∧ Below w.heap.size w w' := by
  have CC : Hid (∀ W s, Below w.heap.size w W → Calls Tryd.prog 21 #[.agg #[c, q], .string s] W fun e w' => e = .returned (.int .i64 (colI C n s)) ∧ Below W.heap.size W w') := fun W s hW => colAt_is c q n m C (fun _ => ⟨0, fun _ => ⟨0, 0, ⟨#[]⟩⟩⟩) s W (hc.below hW) hq
  obtain ⟨a, cap, rfl, _⟩ := hc
  obtain ⟨qa, qcap, rfl⟩ := hq
  obtain ⟨la, lcap, rfl, l1, l2, _, l3⟩ := hl
  have hkk : k ≤ 9223372036854775807 := by omega
  have HL : Hid (∀ W i, Below w.heap.size w W → i < k → ∃ b off, la = some ⟨b, off, none⟩ ∧ b < w.heap.size ∧ W.cell? ⟨b, off + i, none⟩ = some (.string (O i))) := fun W i hW hi => by
    obtain ⟨b, off, e1, e2, e3⟩ := l3 (by omega)
    exact ⟨b, off, e1, e2, (hW.cell (p := ⟨b, off + i, none⟩) e2).trans (e3 i hi)⟩
  have HP : Hid (∀ i, i < k → colI C n (O i) = (P i : Int)) := hP
  obtain ⟨i0, hi0, hz0, hz1, hz2⟩ := info_parts infoInt
  clear l2 l3 hP
  go_enter Tryd.func20, Tryd.ntmps20
  go_wp2
  go_loopw [6, 7] (fun v i wr => ∃ j : Nat, j ≤ k ∧ i = .int .i64 j ∧ wr.ownsRow (w.heap.size + 1) 3 1 v j (intCells P j) ∧ Below (w.heap.size + 1) (w.alloc (.cells #[.slice a n cap, .slice qa m qcap] 25)) wr) (fun _ i _ => k - (intOf i).toNat)
  case atStart => exact ⟨0, Nat.zero_le _, rfl, World.ownsRow_nil _ _ _ _, Below.refl _ _⟩
  case round =>
    obtain ⟨j, hj, rfl, hv, hbr⟩ := hrel
    obtain ⟨va, vc, rfl⟩ := own_shape hv
    have HV : Hid (wr.ownsRow (w.heap.size + 1) 3 1 (.slice va j vc) j (intCells P j)) := hv
    have HB : Hid (Below (w.heap.size + 1) (w.alloc (.cells #[.slice a n cap, .slice qa m qcap] 25)) wr) := hbr
    have HBW : Hid (Below w.heap.size w wr) := ((Below.refl _ _).alloc (Nat.le_refl _) _).trans (hbr.mono (Nat.le_succ _))
    obtain ⟨x0, x1, _, _, x2⟩ := resbox (Nat.lt_succ_self _) hbr
    clear hv hbr
    by_cases hlt : j < k
    · obtain ⟨b, off, rfl, hb0, e0⟩ := HL.out wr j HBW.out hlt
      have hji : (j : Int) < (k : Int) := by omega
      have hbz : b < wr.heap.size := by omega
      have CJ : Hid (Calls Tryd.prog 21 #[.agg #[.slice a n cap, .slice qa m qcap], .string (O j)] wr.drew fun e w' => e = .returned (.int .i64 (P j : Int)) ∧ Below wr.heap.size wr w') := by
        have h := CC.out wr.drew (O j) HBW.out.drew
        rw [HP.out j hlt] at h
        exact h.mono (fun e w' ⟨h1, h2⟩ => ⟨h1, (Below.refl _ _).drew.trans h2⟩)
      have HE : Hid (intCells P (j + 1) = intCells P j ++ elemN (P j)) := intCells_succ P j
      generalize P j = p at *
      generalize O j = s at *
      have hp0 : ¬ ((p : Int) < 0) := by omega
      go_upto_region 5 with fail
      go_region_held3 (fun W => W.cell? ⟨w.heap.size, 0, none⟩ = some (.slice a n cap) ∧ W.cell? ⟨w.heap.size, 1, none⟩ = some (.slice qa m qcap) ∧ W.cell? ⟨b, off + j, none⟩ = some (.string s)) (go_keep)
        (first | (go_at_call 21; refine CJ.out.mono ?_; rintro e w1 ⟨rfl, hb1⟩; have y0 := (hb1.cell (p := ⟨w.heap.size, 0, none⟩) x2).trans x0; have y1 := (hb1.cell (p := ⟨w.heap.size, 1, none⟩) x2).trans x1; have y2 := (hb1.cell (p := ⟨b, off + j, none⟩) hbz).trans e0; have hw1 : wr.heap.size ≤ w1.heap.size := hb1.size; have HB1 : Hid (Below (w.heap.size + 1) (w.alloc (.cells #[.slice a n cap, .slice qa m qcap] 25)) w1) := HB.out.trans (hb1.mono x2); have HV1 : Hid (w1.ownsRow (w.heap.size + 1) 3 1 (.slice va j vc) j (intCells P j)) := own_below HV.out hb1; clear hb1))
      all_goals
        go_split_ands
        go_wp2_with (first | (at_builtin; refine wpList_append_own _ rfl (.tmp 23) (.tmp 25) 34 rfl (w.heap.size + 1) 3 i0 _ 1 8 Tryd.underlying34 hi0 hz0 hz1 hz2 rfl (by decide) _ _ _ rfl (HV1.out.alloc _) ⟨w1.heap.size, 0, none⟩ 1 1 (elemN p) rfl rfl (elemN_in p) (elemN_one _) (by unfold maxLen; omega) (by omega) (by simp <;> omega) ?_; intro v6 w6 hown6 hgrow6 _; obtain ⟨va6, vc6, rfl⟩ := own_shape hown6; have HV6 : Hid (w6.ownsRow (w.heap.size + 1) 3 1 (.slice va6 (j + 1) vc6) (j + 1) (intCells P j ++ elemN p)) := hown6; have HB6 : Hid (Below (w.heap.size + 1) _ w6) := (HB1.out.alloc (by omega) _).grown hgrow6 (by simp <;> omega) (fun z hz => (HV1.out.lt z hz).1); clear hown6 hgrow6))
        go_roundw
        case rel => exact ⟨j + 1, by omega, by go_num, by rw [HE.out]; exact HV6.out, HB6.out⟩
        case measure => simp [intOf]; omega
    · have e : j = k := by omega
      subst e
      go_wp2
      exact bodyPost_ret (v := .tuple #[.slice va j vc, .bool true]) (by simp [results, Tryd.results20, go_sem]) rfl ⟨_, rfl, ints_of HV.out, ⟨_, _, rfl⟩, HBW.out⟩
set_option maxHeartbeats 3200000 in
/-- a column isn't there -/
theorem colsAt_no (c q l : Value) (n m k : Nat) (C O : Nat → ByteArray) (P : Nat → Nat) (w : World) (hc : StrsIs w c n C) (hq : ∃ a x, q = .slice a m x) (hl : StrsIs w l k O) (t : Nat) (ht : t < k) (hP : ∀ i, i < t → colI C n (O i) = (P i : Int)) (hN : colI C n (O t) = -1) (hk : k * 16 ≤ 140737488351232) :
    Calls Tryd.prog 20 #[.agg #[c, q], l] w fun e w' => e = .returned (.tuple #[.slice none 0 0, .bool false]) ∧ Below w.heap.size w w' := by
  have CC : Hid (∀ W s, Below w.heap.size w W → Calls Tryd.prog 21 #[.agg #[c, q], .string s] W fun e w' => e = .returned (.int .i64 (colI C n s)) ∧ Below W.heap.size W w') := fun W s hW => colAt_is c q n m C (fun _ => ⟨0, fun _ => ⟨0, 0, ⟨#[]⟩⟩⟩) s W (hc.below hW) hq
  obtain ⟨a, cap, rfl, _⟩ := hc
  obtain ⟨qa, qcap, rfl⟩ := hq
  obtain ⟨la, lcap, rfl, l1, l2, _, l3⟩ := hl
  have hkk : k ≤ 9223372036854775807 := by omega
  have HL : Hid (∀ W i, Below w.heap.size w W → i < k → ∃ b off, la = some ⟨b, off, none⟩ ∧ b < w.heap.size ∧ W.cell? ⟨b, off + i, none⟩ = some (.string (O i))) := fun W i hW hi => by
    obtain ⟨b, off, e1, e2, e3⟩ := l3 (by omega)
    exact ⟨b, off, e1, e2, (hW.cell (p := ⟨b, off + i, none⟩) e2).trans (e3 i hi)⟩
  have HP : Hid (∀ i, i < t → colI C n (O i) = (P i : Int)) := hP
  have HN : Hid (colI C n (O t) = -1) := hN
  obtain ⟨i0, hi0, hz0, hz1, hz2⟩ := info_parts infoInt
  clear l2 l3 hP hN
  go_enter Tryd.func20, Tryd.ntmps20
  go_wp2
  go_loopw [6, 7] (fun v i wr => ∃ j : Nat, j ≤ t ∧ i = .int .i64 j ∧ wr.ownsRow (w.heap.size + 1) 3 1 v j (intCells P j) ∧ Below (w.heap.size + 1) (w.alloc (.cells #[.slice a n cap, .slice qa m qcap] 25)) wr) (fun _ i _ => t - (intOf i).toNat)
  case atStart => exact ⟨0, Nat.zero_le _, rfl, World.ownsRow_nil _ _ _ _, Below.refl _ _⟩
  case round =>
    obtain ⟨j, hj, rfl, hv, hbr⟩ := hrel
    obtain ⟨va, vc, rfl⟩ := own_shape hv
    have HV : Hid (wr.ownsRow (w.heap.size + 1) 3 1 (.slice va j vc) j (intCells P j)) := hv
    have HB : Hid (Below (w.heap.size + 1) (w.alloc (.cells #[.slice a n cap, .slice qa m qcap] 25)) wr) := hbr
    have HBW : Hid (Below w.heap.size w wr) := ((Below.refl _ _).alloc (Nat.le_refl _) _).trans (hbr.mono (Nat.le_succ _))
    obtain ⟨x0, x1, _, _, x2⟩ := resbox (Nat.lt_succ_self _) hbr
    clear hv hbr
    by_cases hlt : j < t
    · obtain ⟨b, off, rfl, hb0, e0⟩ := HL.out wr j HBW.out (by omega)
      have hji : (j : Int) < (k : Int) := by omega
      have hbz : b < wr.heap.size := by omega
      have CJ : Hid (Calls Tryd.prog 21 #[.agg #[.slice a n cap, .slice qa m qcap], .string (O j)] wr.drew fun e w' => e = .returned (.int .i64 (P j : Int)) ∧ Below wr.heap.size wr w') := by
        have h := CC.out wr.drew (O j) HBW.out.drew
        rw [HP.out j hlt] at h
        exact h.mono (fun e w' ⟨h1, h2⟩ => ⟨h1, (Below.refl _ _).drew.trans h2⟩)
      have HE : Hid (intCells P (j + 1) = intCells P j ++ elemN (P j)) := intCells_succ P j
      generalize P j = p at *
      generalize O j = s at *
      have hp0 : ¬ ((p : Int) < 0) := by omega
      go_upto_region 5 with fail
      go_region_held3 (fun W => W.cell? ⟨w.heap.size, 0, none⟩ = some (.slice a n cap) ∧ W.cell? ⟨w.heap.size, 1, none⟩ = some (.slice qa m qcap) ∧ W.cell? ⟨b, off + j, none⟩ = some (.string s)) (go_keep)
        (first | (go_at_call 21; refine CJ.out.mono ?_; rintro e w1 ⟨rfl, hb1⟩; have y0 := (hb1.cell (p := ⟨w.heap.size, 0, none⟩) x2).trans x0; have y1 := (hb1.cell (p := ⟨w.heap.size, 1, none⟩) x2).trans x1; have y2 := (hb1.cell (p := ⟨b, off + j, none⟩) hbz).trans e0; have hw1 : wr.heap.size ≤ w1.heap.size := hb1.size; have HB1 : Hid (Below (w.heap.size + 1) (w.alloc (.cells #[.slice a n cap, .slice qa m qcap] 25)) w1) := HB.out.trans (hb1.mono x2); have HV1 : Hid (w1.ownsRow (w.heap.size + 1) 3 1 (.slice va j vc) j (intCells P j)) := own_below HV.out hb1; clear hb1))
      all_goals
        go_split_ands
        go_wp2_with (first | (at_builtin; refine wpList_append_own _ rfl (.tmp 23) (.tmp 25) 34 rfl (w.heap.size + 1) 3 i0 _ 1 8 Tryd.underlying34 hi0 hz0 hz1 hz2 rfl (by decide) _ _ _ rfl (HV1.out.alloc _) ⟨w1.heap.size, 0, none⟩ 1 1 (elemN p) rfl rfl (elemN_in p) (elemN_one _) (by unfold maxLen; omega) (by omega) (by simp <;> omega) ?_; intro v6 w6 hown6 hgrow6 _; obtain ⟨va6, vc6, rfl⟩ := own_shape hown6; have HV6 : Hid (w6.ownsRow (w.heap.size + 1) 3 1 (.slice va6 (j + 1) vc6) (j + 1) (intCells P j ++ elemN p)) := hown6; have HB6 : Hid (Below (w.heap.size + 1) _ w6) := (HB1.out.alloc (by omega) _).grown hgrow6 (by simp <;> omega) (fun z hz => (HV1.out.lt z hz).1); clear hown6 hgrow6))
        go_roundw
        case rel => exact ⟨j + 1, by omega, by go_num, by rw [HE.out]; exact HV6.out, HB6.out⟩
        case measure => simp [intOf]; omega
    · have e : j = t := by omega
      subst e
      obtain ⟨b, off, rfl, hb0, e0⟩ := HL.out wr j HBW.out ht
      have hji : (j : Int) < (k : Int) := by omega
      have hbz : b < wr.heap.size := by omega
      have CJ : Hid (Calls Tryd.prog 21 #[.agg #[.slice a n cap, .slice qa m qcap], .string (O j)] wr.drew fun e w' => e = .returned (.int .i64 (-1)) ∧ Below wr.heap.size wr w') := by
        have h := CC.out wr.drew (O j) HBW.out.drew
        rw [HN.out] at h
        exact h.mono (fun e w' ⟨h1, h2⟩ => ⟨h1, (Below.refl _ _).drew.trans h2⟩)
      generalize O j = s at *
      go_upto_region 5 with fail
      go_region_held3 (fun W => W.cell? ⟨w.heap.size, 0, none⟩ = some (.slice a n cap) ∧ W.cell? ⟨w.heap.size, 1, none⟩ = some (.slice qa m qcap) ∧ W.cell? ⟨b, off + j, none⟩ = some (.string s)) (go_keep)
        (first | (go_at_call 21; refine CJ.out.mono ?_; rintro e w1 ⟨rfl, hb1⟩; have y0 := (hb1.cell (p := ⟨w.heap.size, 0, none⟩) x2).trans x0; have y1 := (hb1.cell (p := ⟨w.heap.size, 1, none⟩) x2).trans x1; have y2 := (hb1.cell (p := ⟨b, off + j, none⟩) hbz).trans e0; have hw1 : wr.heap.size ≤ w1.heap.size := hb1.size; have HB1 : Hid (Below (w.heap.size + 1) (w.alloc (.cells #[.slice a n cap, .slice qa m qcap] 25)) w1) := HB.out.trans (hb1.mono x2); have HV1 : Hid (w1.ownsRow (w.heap.size + 1) 3 1 (.slice va j vc) j (intCells P j)) := own_below HV.out hb1; clear hb1))
      all_goals
        go_split_ands
        go_wp2
        exact bodyPost_ret (v := .tuple #[.slice none 0 0, .bool false]) (by simp [results, Tryd.results20, go_sem]) rfl ⟨rfl, ((Below.refl _ _).alloc (Nat.le_refl _) _).trans (HB1.out.mono (Nat.le_succ _))⟩
end Go.Proofs.YtlblomlblibbdaaDoor
