/-
  WHAT IS REFUSED OF AN OP ALONE (run.checkAlone).
-/
import Derived.Test.YtkcejelmohameaaGreatDoorRcOp
import Derived.Deep.QuietTactic
import Derived.BigQuiet
import Derived.Deep.RegionHeld3
import Derived.Laws.EntriesVeiled
set_option linter.unusedVariables false
namespace Go.Proofs.YtkcejelmohameaaGreatDoor
set_option maxRecDepth 100000
open Go.RowKit Go.WideShapes

/-- the table of how many inputs there are -/
def InTabA (w : World) : Prop := (∀ k : Nat, 1 ≤ k → k ≤ 15 → w.cell? ⟨0, k, none⟩ = some (.int .i64 (inC (k : Int) : Nat))) ∧ 0 < w.heap.size
theorem InTabA.below {w w' : World} (h : InTabA w) (hb : Below w.heap.size w w') : InTabA w' := ⟨fun k h1 h2 => (hb.cell (p := ⟨0, k, none⟩) h.2).trans (h.1 k h1 h2), Nat.lt_of_lt_of_le h.2 hb.size⟩
/-- what stair.Walk tells of nothing -/
def StepNil : Prop := ∀ (w : World) (axis tk : Int) (tn : ByteArray), tn.size ≤ maxLen → Calls Tryz.prog 65 #[.slice none 0 0, .slice none 0 0, .int .i64 axis, .agg #[.int .i64 tk, .string tn]] w fun e w' => (∃ u, e = .returned (.tuple #[u, .int .i64 (if stepB axis tk = true then 0 else 3)])) ∧ Below w.heap.size w w'
theorem drewK (B : Nat) (w : World) (n : Nat) : Below B w (w.drewN n) := ⟨rfl, rfl, rfl, Nat.le_refl _, fun _ _ => rfl⟩
theorem insB_at {o : Opm} {i j : Nat} (h : insB o i = true) (hj : j < o.nin) : 0 ≤ o.ins j ∧ o.ins j < i := of_decide_eq_true (List.all_eq_true.1 h j (List.mem_range.2 hj))
theorem insB_all {o : Opm} {i : Nat} (h : ∀ j, j < o.nin → 0 ≤ o.ins j ∧ o.ins j < i) : insB o i = true := List.all_eq_true.2 fun j hj => decide_eq_true (h j (List.mem_range.1 hj))
/-- the first place that is none of an op ahead -/
theorem insB_first {o : Opm} {i : Nat} (h : ¬ insB o i = true) : ∃ j, j < o.nin ∧ (∀ t, t < j → 0 ≤ o.ins t ∧ o.ins t < i) ∧ ¬ (0 ≤ o.ins j ∧ o.ins j < i) := by
  have h1 : ∃ j, j < o.nin ∧ ¬ (0 ≤ o.ins j ∧ o.ins j < i) := Classical.byContradiction fun hn => h (insB_all fun j hj => Classical.byContradiction fun hc => hn ⟨j, hj, hc⟩)
  obtain ⟨j, hj, hn⟩ := h1
  induction j using Nat.strongRecOn with
  | ind j ih =>
    by_cases hb : ∃ t, t < j ∧ ¬ (0 ≤ o.ins t ∧ o.ins t < i)
    · obtain ⟨t, ht, hc⟩ := hb
      exact ih t ht (by omega) hc
    · exact ⟨j, hj, fun t ht => Classical.byContradiction fun hc => hb ⟨t, ht, hc⟩, hn⟩
set_option maxHeartbeats 1600000 in
theorem alone_kind (pb po i M : Nat) (o : Opm) (V0 : ByteArray → Option Value) (w : World) (h : OpAt w pb po o) (hf : OpFine o) (hI : InTabA w) (hF : FnS w M V0 fnL) (hi : i ≤ 200000) (hT : Tabs w) (hk : ¬ (1 ≤ o.kind ∧ o.kind ≤ 15)) : Calls Tryz.prog 8 #[.pointer (some ⟨pb, po, none⟩), .int .i64 (i : Int), .map (some M)] w fun e w' => e = .returned (.int .i64 3) ∧ Below w.heap.size w w' := by
  obtain ⟨hpb, d0, _⟩ := h
  generalize o.kind = k at *
  clear hI hF hT hf
  by_cases h1 : k < 1
  · clear hk
    go_enter Tryz.func8, Tryz.ntmps8
    go_wp2
    go_ret
    exact ⟨rfl, Below.refl _ _⟩
  · have h2 : 15 < k := by omega
    clear hk
    go_enter Tryz.func8, Tryz.ntmps8
    go_wp2
    go_ret
    exact ⟨rfl, Below.refl _ _⟩
set_option maxHeartbeats 3200000 in
theorem alone_count (pb po i M : Nat) (o : Opm) (V0 : ByteArray → Option Value) (w : World) (h : OpAt w pb po o) (hf : OpFine o) (hI : InTabA w) (hF : FnS w M V0 fnL) (hi : i ≤ 200000) (hT : Tabs w) (hk : 1 ≤ o.kind ∧ o.kind ≤ 15) (hn : ¬ o.nin = inC o.kind) : Calls Tryz.prog 8 #[.pointer (some ⟨pb, po, none⟩), .int .i64 (i : Int), .map (some M)] w fun e w' => e = .returned (.int .i64 11) ∧ Below w.heap.size w w' := by
  obtain ⟨k, hkk⟩ : ∃ k : Nat, o.kind = (k : Int) := ⟨o.kind.toNat, by omega⟩
  have hk1 : 1 ≤ k := by omega
  have hk15 : k ≤ 15 := by omega
  have j0 := hI.1 k hk1 hk15
  have jz := hI.2
  obtain ⟨ia, icap, d1, hz⟩ := h.ins
  have d0 := h.kind
  have hpb := h.lt
  rw [hkk] at d0
  obtain ⟨_, _, e0, z1, z2, z3⟩ := hz
  cases e0
  have HZ3 := hidK z3
  unfold maxLen at z2
  have n1 : ¬ (k : Int) < 1 := by omega
  have n2 : ¬ (15 : Int) < (k : Int) := by omega
  have n3 : (k : Int) < 16 := by omega
  rw [hkk] at hn
  have n4 : ((o.nin : Int) == ((inC (k : Int) : Nat) : Int)) = false := by rw [beq_eq_false_iff_ne]; omega
  generalize o.nin = nn at *
  generalize inC (k : Int) = cc at *
  clear hI hF hT hf h HZ3 z3 hk hn hkk
  go_enter Tryz.func8, Tryz.ntmps8
  go_upto_region 3 with fail
  go_quiet (fail)
  obtain ⟨V, hV⟩ : ∃ W, W = w.drewN nq := ⟨_, rfl⟩
  have hVc : ∀ x, V.cell? x = w.cell? x := fun x => by rw [hV]; rfl
  have HBV : Hid (Below w.heap.size w V) := by rw [hV]; exact drewK _ _ _
  rw [← hV]
  clear hV hVc
  go_wp2
  go_ret
  exact ⟨rfl, HBV.out⟩
set_option maxHeartbeats 3200000 in
theorem alone_range (pb po i M : Nat) (o : Opm) (V0 : ByteArray → Option Value) (w : World) (h : OpAt w pb po o) (hf : OpFine o) (hI : InTabA w) (hF : FnS w M V0 fnL) (hi : i ≤ 200000) (hT : Tabs w) (hk : 1 ≤ o.kind ∧ o.kind ≤ 15) (hn : o.nin = inC o.kind) (hins : ¬ insB o i = true) : Calls Tryz.prog 8 #[.pointer (some ⟨pb, po, none⟩), .int .i64 (i : Int), .map (some M)] w fun e w' => e = .returned (.int .i64 2) ∧ Below w.heap.size w w' := by
  obtain ⟨k, hkk⟩ : ∃ k : Nat, o.kind = (k : Int) := ⟨o.kind.toNat, by omega⟩
  have hk1 : 1 ≤ k := by omega
  have hk15 : k ≤ 15 := by omega
  have j0 := hI.1 k hk1 hk15
  have jz := hI.2
  obtain ⟨ia, icap, d1, hz⟩ := h.ins
  have d0 := h.kind
  have hpb := h.lt
  rw [hkk] at d0
  obtain ⟨_, _, e0, z1, z2, z3⟩ := hz
  cases e0
  have HZ3 := hidK z3
  unfold maxLen at z2
  have n1 : ¬ (k : Int) < 1 := by omega
  have n2 : ¬ (15 : Int) < (k : Int) := by omega
  have n3 : (k : Int) < 16 := by omega
  rw [hkk] at hn
  obtain ⟨jb, hjb, hall, hbad⟩ := insB_first hins
  have HALL := hidK hall
  have HBAD := hidK hbad
  obtain ⟨nn, hnn⟩ : ∃ nn, nn = o.nin := ⟨_, rfl⟩
  rw [← hn] at j0
  rw [← hnn] at j0 d1 z1 hjb
  rw [← hnn] at HZ3
  clear hI hF hT hf h z3 hk hn hkk hall hbad hins hnn
  go_enter Tryz.func8, Tryz.ntmps8
  go_upto_region 3 with fail
  go_quiet (fail)
  obtain ⟨V, hV⟩ : ∃ W, W = w.drewN nq := ⟨_, rfl⟩
  have hVc : ∀ x, V.cell? x = w.cell? x := fun x => by rw [hV]; rfl
  have HBV : Hid (Below w.heap.size w V) := by rw [hV]; exact drewK _ _ _
  rw [← hV]
  rw [← hVc] at d0 d1
  have hpb2 : pb < V.heap.size := Nat.lt_of_lt_of_le hpb HBV.out.size
  clear hV hVc j0
  go_wp2
  go_loop [42] (fun i' => ∃ j : Nat, j ≤ jb ∧ i' = .int .i64 (j : Int)) (fun i' => nn - (intOf i').toNat)
  case atStart => exact ⟨0, Nat.zero_le _, rfl⟩
  case round =>
    obtain ⟨j, hj, rfl⟩ := hrel
    obtain ⟨ib, io, rfl, hib, hcell⟩ := HZ3.out (by omega)
    have e1 : V.cell? ⟨ib, io + j, none⟩ = some (.int .i64 (o.ins j)) := (HBV.out.cell (p := ⟨ib, io + j, none⟩) hib).trans (hcell j (by omega))
    have hji : (j : Int) < (nn : Int) := by omega
    clear hcell
    by_cases hjj : j = jb
    · have hz := HBAD.out
      rw [← hjj] at hz
      clear hjj
      generalize o.ins j = z at *
      by_cases hz0 : z < 0
      · clear hz
        go_wp2
        go_ret
        exact ⟨rfl, HBV.out⟩
      · have hz1 : (i : Int) ≤ z := by omega
        clear hz
        go_wp2
        go_ret
        exact ⟨rfl, HBV.out⟩
    · obtain ⟨y0, y1⟩ := HALL.out j (by omega)
      have y2 : ¬ o.ins j < 0 := by omega
      have y3 : ¬ (i : Int) ≤ o.ins j := by omega
      generalize o.ins j = z at *
      go_wp2
      go_round
      case rel => exact ⟨j + 1, by omega, by go_num⟩
      case measure => simp [intOf]; omega
set_option maxHeartbeats 3200000 in
theorem alone_rest (pb po i M : Nat) (o : Opm) (V0 : ByteArray → Option Value) (w : World) (h : OpAt w pb po o) (hf : OpFine o) (hI : InTabA w) (hF : FnS w M V0 fnL) (hi : i ≤ 200000) (hT : Tabs w) (hk : 1 ≤ o.kind ∧ o.kind ≤ 15) (hn : o.nin = inC o.kind) (hins : insB o i = true) (hkn : (o.kind == 1) = false ∧ (o.kind == 10) = false ∧ (o.kind == 11) = false ∧ (o.kind == 12) = false ∧ (o.kind == 13) = false) : Calls Tryz.prog 8 #[.pointer (some ⟨pb, po, none⟩), .int .i64 (i : Int), .map (some M)] w fun e w' => e = .returned (.int .i64 0) ∧ Below w.heap.size w w' := by
  obtain ⟨k, hkk⟩ : ∃ k : Nat, o.kind = (k : Int) := ⟨o.kind.toNat, by omega⟩
  have hk1 : 1 ≤ k := by omega
  have hk15 : k ≤ 15 := by omega
  have j0 := hI.1 k hk1 hk15
  have jz := hI.2
  obtain ⟨ia, icap, d1, hz⟩ := h.ins
  have d0 := h.kind
  have hpb := h.lt
  rw [hkk] at d0
  obtain ⟨_, _, e0, z1, z2, z3⟩ := hz
  cases e0
  have HZ3 := hidK z3
  unfold maxLen at z2
  have n1 : ¬ (k : Int) < 1 := by omega
  have n2 : ¬ (15 : Int) < (k : Int) := by omega
  have n3 : (k : Int) < 16 := by omega
  rw [hkk] at hn hkn
  have HALL : Hid (∀ j, j < o.nin → 0 ≤ o.ins j ∧ o.ins j < i) := fun j hj => insB_at hins hj
  obtain ⟨nn, hnn⟩ : ∃ nn, nn = o.nin := ⟨_, rfl⟩
  rw [← hn] at j0
  rw [← hnn] at j0 d1 z1
  rw [← hnn] at HZ3 HALL
  have HBB : Hid (∀ W, Below w.heap.size w W → OpAt W pb po o) := fun W hW => h.below hW
  clear hI hT hf h z3 hk hn hkk hins hnn hF
  go_enter Tryz.func8, Tryz.ntmps8
  go_upto_region 3 with fail
  go_quiet (fail)
  obtain ⟨V, hV⟩ : ∃ W, W = w.drewN nq := ⟨_, rfl⟩
  have hVc : ∀ x, V.cell? x = w.cell? x := fun x => by rw [hV]; rfl
  have HBV : Hid (Below w.heap.size w V) := by rw [hV]; exact drewK _ _ _
  rw [← hV]
  rw [← hVc] at d0 d1
  have hpb2 : pb < V.heap.size := Nat.lt_of_lt_of_le hpb HBV.out.size
  clear hV hVc j0
  go_wp2
  go_loop [42] (fun i' => ∃ j : Nat, j ≤ nn ∧ i' = .int .i64 (j : Int)) (fun i' => nn - (intOf i').toNat)
  case atStart => exact ⟨0, Nat.zero_le _, rfl⟩
  case round =>
    obtain ⟨j, hj, rfl⟩ := hrel
    by_cases hlt : j < nn
    · clear hkn
      obtain ⟨ib, io, rfl, hib, hcell⟩ := HZ3.out (by omega)
      have e1 : V.cell? ⟨ib, io + j, none⟩ = some (.int .i64 (o.ins j)) := (HBV.out.cell (p := ⟨ib, io + j, none⟩) hib).trans (hcell j (by omega))
      have hji : (j : Int) < (nn : Int) := by omega
      clear hcell
      obtain ⟨y0, y1⟩ := HALL.out j (by omega)
      have y2 : ¬ o.ins j < 0 := by omega
      have y3 : ¬ (i : Int) ≤ o.ins j := by omega
      generalize o.ins j = z at *
      go_wp2
      go_round
      case rel => exact ⟨j + 1, by omega, by go_num⟩
      case measure => simp [intOf]; omega
    · have hji : ¬ (j : Int) < (nn : Int) := by omega
      have hO := HBB.out V HBV.out
      obtain ⟨c1, c10, c11, c12, c13⟩ := hkn
      clear HBB HALL HZ3
      clear hO
      go_wp2
      go_ret
      exact ⟨rfl, HBV.out⟩
set_option maxHeartbeats 3200000 in
theorem alone_table (pb po i M : Nat) (o : Opm) (V0 : ByteArray → Option Value) (w : World) (h : OpAt w pb po o) (hf : OpFine o) (hI : InTabA w) (hF : FnS w M V0 fnL) (hi : i ≤ 200000) (hT : Tabs w) (hk : 1 ≤ o.kind ∧ o.kind ≤ 15) (hn : o.nin = inC o.kind) (hins : insB o i = true) (hkn : (o.kind == 1) = true ∧ (o.kind == 10) = false ∧ (o.kind == 11) = false ∧ (o.kind == 12) = false ∧ (o.kind == 13) = false) : Calls Tryz.prog 8 #[.pointer (some ⟨pb, po, none⟩), .int .i64 (i : Int), .map (some M)] w fun e w' => e = .returned (.int .i64 (tabF o.rc.at_ o.rc.len o.rr o.rm)) ∧ Below w.heap.size w w' := by
  have CK : Hid (∀ W, Below w.heap.size w W → ∀ ca cc qa qc, StrsIs W (.slice ca o.rc.len cc) o.rc.len o.rc.at_ → RowsIs W (.slice qa o.rm qc) o.rm o.rr → Calls Tryz.prog 63 #[.agg #[.slice ca o.rc.len cc, .slice qa o.rm qc]] W fun e w' => e = .returned (.int .i64 (tabF o.rc.at_ o.rc.len o.rr o.rm)) ∧ Below W.heap.size W w') := fun W hW ca cc qa qc h1 h2 => checkTable_is _ _ _ _ _ _ W h1 h2 hf.rc hf.rr (Utf8Tabs_below hT hW)
  generalize tabF o.rc.at_ o.rc.len o.rr o.rm = R at *
  obtain ⟨k, hkk⟩ : ∃ k : Nat, o.kind = (k : Int) := ⟨o.kind.toNat, by omega⟩
  have hk1 : 1 ≤ k := by omega
  have hk15 : k ≤ 15 := by omega
  have j0 := hI.1 k hk1 hk15
  have jz := hI.2
  obtain ⟨ia, icap, d1, hz⟩ := h.ins
  have d0 := h.kind
  have hpb := h.lt
  rw [hkk] at d0
  obtain ⟨_, _, e0, z1, z2, z3⟩ := hz
  cases e0
  have HZ3 := hidK z3
  unfold maxLen at z2
  have n1 : ¬ (k : Int) < 1 := by omega
  have n2 : ¬ (15 : Int) < (k : Int) := by omega
  have n3 : (k : Int) < 16 := by omega
  rw [hkk] at hn hkn
  have HALL : Hid (∀ j, j < o.nin → 0 ≤ o.ins j ∧ o.ins j < i) := fun j hj => insB_at hins hj
  obtain ⟨nn, hnn⟩ : ∃ nn, nn = o.nin := ⟨_, rfl⟩
  rw [← hn] at j0
  rw [← hnn] at j0 d1 z1
  rw [← hnn] at HZ3 HALL
  have HBB : Hid (∀ W, Below w.heap.size w W → OpAt W pb po o) := fun W hW => h.below hW
  clear hI hT hf h z3 hk hn hkk hins hnn hF
  go_enter Tryz.func8, Tryz.ntmps8
  go_upto_region 3 with fail
  go_quiet (fail)
  obtain ⟨V, hV⟩ : ∃ W, W = w.drewN nq := ⟨_, rfl⟩
  have hVc : ∀ x, V.cell? x = w.cell? x := fun x => by rw [hV]; rfl
  have HBV : Hid (Below w.heap.size w V) := by rw [hV]; exact drewK _ _ _
  rw [← hV]
  rw [← hVc] at d0 d1
  have hpb2 : pb < V.heap.size := Nat.lt_of_lt_of_le hpb HBV.out.size
  clear hV hVc j0
  go_wp2
  go_loop [42] (fun i' => ∃ j : Nat, j ≤ nn ∧ i' = .int .i64 (j : Int)) (fun i' => nn - (intOf i').toNat)
  case atStart => exact ⟨0, Nat.zero_le _, rfl⟩
  case round =>
    obtain ⟨j, hj, rfl⟩ := hrel
    by_cases hlt : j < nn
    · clear hkn
      obtain ⟨ib, io, rfl, hib, hcell⟩ := HZ3.out (by omega)
      have e1 : V.cell? ⟨ib, io + j, none⟩ = some (.int .i64 (o.ins j)) := (HBV.out.cell (p := ⟨ib, io + j, none⟩) hib).trans (hcell j (by omega))
      have hji : (j : Int) < (nn : Int) := by omega
      clear hcell
      obtain ⟨y0, y1⟩ := HALL.out j (by omega)
      have y2 : ¬ o.ins j < 0 := by omega
      have y3 : ¬ (i : Int) ≤ o.ins j := by omega
      generalize o.ins j = z at *
      go_wp2
      go_round
      case rel => exact ⟨j + 1, by omega, by go_num⟩
      case measure => simp [intOf]; omega
    · have hji : ¬ (j : Int) < (nn : Int) := by omega
      have hO := HBB.out V HBV.out
      obtain ⟨c1, c10, c11, c12, c13⟩ := hkn
      clear HBB HALL HZ3
      obtain ⟨ca, cc, d11, hc⟩ := hO.rc
      obtain ⟨qa, qc, d12, hq⟩ := hO.rr
      have CK1 := hidK (CK.out V HBV.out _ _ _ _ hc hq)
      clear hO hc hq CK
      go_wp2_with (go_at_call 63; refine CK1.out.mono ?_; rintro e w1 ⟨rfl, hb1⟩; have HB1 := hidK (HBV.out.trans (hb1.mono HBV.out.size)); clear hb1)
      go_ret
      exact ⟨rfl, HB1.out⟩
set_option maxHeartbeats 3200000 in
theorem alone_group (pb po i M : Nat) (o : Opm) (V0 : ByteArray → Option Value) (w : World) (h : OpAt w pb po o) (hf : OpFine o) (hI : InTabA w) (hF : FnS w M V0 fnL) (hi : i ≤ 200000) (hT : Tabs w) (hk : 1 ≤ o.kind ∧ o.kind ≤ 15) (hn : o.nin = inC o.kind) (hins : insB o i = true) (hkn : (o.kind == 1) = false ∧ (o.kind == 10) = true ∧ (o.kind == 11) = false ∧ (o.kind == 12) = false ∧ (o.kind == 13) = false) : Calls Tryz.prog 8 #[.pointer (some ⟨pb, po, none⟩), .int .i64 (i : Int), .map (some M)] w fun e w' => e = .returned (.int .i64 (if aggB o.name = true then 0 else 6)) ∧ Below w.heap.size w w' := by
  have CK : Hid (∀ W, Below w.heap.size w W → Calls Tryz.prog 64 #[.string o.name] W fun e w' => e = .returned (.int .i64 (if aggB o.name = true then 0 else 6)) ∧ Below W.heap.size W w') := fun W hW => checkAggregate_is _ W (Utf8Tabs_below hT hW)
  generalize (if aggB o.name = true then (0 : Int) else 6) = R at *
  obtain ⟨k, hkk⟩ : ∃ k : Nat, o.kind = (k : Int) := ⟨o.kind.toNat, by omega⟩
  have hk1 : 1 ≤ k := by omega
  have hk15 : k ≤ 15 := by omega
  have j0 := hI.1 k hk1 hk15
  have jz := hI.2
  obtain ⟨ia, icap, d1, hz⟩ := h.ins
  have d0 := h.kind
  have hpb := h.lt
  rw [hkk] at d0
  obtain ⟨_, _, e0, z1, z2, z3⟩ := hz
  cases e0
  have HZ3 := hidK z3
  unfold maxLen at z2
  have n1 : ¬ (k : Int) < 1 := by omega
  have n2 : ¬ (15 : Int) < (k : Int) := by omega
  have n3 : (k : Int) < 16 := by omega
  rw [hkk] at hn hkn
  have HALL : Hid (∀ j, j < o.nin → 0 ≤ o.ins j ∧ o.ins j < i) := fun j hj => insB_at hins hj
  obtain ⟨nn, hnn⟩ : ∃ nn, nn = o.nin := ⟨_, rfl⟩
  rw [← hn] at j0
  rw [← hnn] at j0 d1 z1
  rw [← hnn] at HZ3 HALL
  have HBB : Hid (∀ W, Below w.heap.size w W → OpAt W pb po o) := fun W hW => h.below hW
  clear hI hT hf h z3 hk hn hkk hins hnn hF
  go_enter Tryz.func8, Tryz.ntmps8
  go_upto_region 3 with fail
  go_quiet (fail)
  obtain ⟨V, hV⟩ : ∃ W, W = w.drewN nq := ⟨_, rfl⟩
  have hVc : ∀ x, V.cell? x = w.cell? x := fun x => by rw [hV]; rfl
  have HBV : Hid (Below w.heap.size w V) := by rw [hV]; exact drewK _ _ _
  rw [← hV]
  rw [← hVc] at d0 d1
  have hpb2 : pb < V.heap.size := Nat.lt_of_lt_of_le hpb HBV.out.size
  clear hV hVc j0
  go_wp2
  go_loop [42] (fun i' => ∃ j : Nat, j ≤ nn ∧ i' = .int .i64 (j : Int)) (fun i' => nn - (intOf i').toNat)
  case atStart => exact ⟨0, Nat.zero_le _, rfl⟩
  case round =>
    obtain ⟨j, hj, rfl⟩ := hrel
    by_cases hlt : j < nn
    · clear hkn
      obtain ⟨ib, io, rfl, hib, hcell⟩ := HZ3.out (by omega)
      have e1 : V.cell? ⟨ib, io + j, none⟩ = some (.int .i64 (o.ins j)) := (HBV.out.cell (p := ⟨ib, io + j, none⟩) hib).trans (hcell j (by omega))
      have hji : (j : Int) < (nn : Int) := by omega
      clear hcell
      obtain ⟨y0, y1⟩ := HALL.out j (by omega)
      have y2 : ¬ o.ins j < 0 := by omega
      have y3 : ¬ (i : Int) ≤ o.ins j := by omega
      generalize o.ins j = z at *
      go_wp2
      go_round
      case rel => exact ⟨j + 1, by omega, by go_num⟩
      case measure => simp [intOf]; omega
    · have hji : ¬ (j : Int) < (nn : Int) := by omega
      have hO := HBB.out V HBV.out
      obtain ⟨c1, c10, c11, c12, c13⟩ := hkn
      clear HBB HALL HZ3
      have d6 := hO.name
      have CK1 := hidK (CK.out V HBV.out)
      clear hO CK
      go_wp2_with (go_at_call 64; refine CK1.out.mono ?_; rintro e w1 ⟨rfl, hb1⟩; have HB1 := hidK (HBV.out.trans (hb1.mono HBV.out.size)); clear hb1)
      go_ret
      exact ⟨rfl, HB1.out⟩
theorem fnA_some {s : ByteArray} {e : FnE} (he : fnL.find? (fun e => e.name.toList == s.toList) = some e) : fnA s = e.args := by
  have h : ∀ (L : List FnE), (L.map fun e => (e.name, e.args)).find? (fun x => x.1.toList == s.toList) = (L.find? (fun e => e.name.toList == s.toList)).map fun e => (e.name, e.args) := by
    intro L
    rw [List.find?_map]
    rfl
  unfold fnA
  rw [show fnT = fnL.map (fun e => (e.name, e.args)) from rfl, h, he]
  rfl
theorem fnA_none {s : ByteArray} (he : fnL.find? (fun e => e.name.toList == s.toList) = none) : fnA s = -1 := by
  unfold fnA
  rw [show fnT = fnL.map (fun e => (e.name, e.args)) from rfl, List.find?_map]
  have : fnL.find? ((fun x : ByteArray × Int => x.1.toList == s.toList) ∘ fun e => (e.name, e.args)) = none := he
  rw [this]
  rfl
theorem bytesK {a b : ByteArray} (h : (a.toList == b.toList) = true) : a = b := by
  have h' := eq_of_beq h
  rw [ByteArray.toList_eq, ByteArray.toList_eq] at h'
  cases a; cases b
  congr 1
  exact Array.toList_inj.1 h'
/-- what the table of functions holds of a name -/
theorem fn_look {W : World} {M : Nat} {V0 : ByteArray → Option Value} (hF : FnS W M V0 fnL) (s : ByteArray) : (fnA s = -1 ∧ V0 s = none) ∨ (0 ≤ fnA s ∧ ∃ f caps, V0 s = some (.agg #[.int .i64 (fnA s), .func f #[] caps])) := by
  cases he : fnL.find? (fun e => e.name.toList == s.toList) with
  | none =>
    refine .inl ⟨fnA_none he, hF.non s fun e h1 h2 => ?_⟩
    have := List.find?_eq_none.1 he e h1
    rw [h2] at this
    simp at this
  | some e =>
    have h1 := List.mem_of_find?_eq_some he
    have h2 : e.name = s := bytesK (by have := List.find?_some he; simpa using this)
    obtain ⟨b, h3, _⟩ := hF.ents e h1
    rw [h2] at h3
    refine .inr ⟨?_, _, _, by rw [fnA_some he]; exact h3⟩
    rw [fnA_some he]
    have hall : fnL.all (fun e => decide (0 ≤ e.args)) = true := by kernel_rfl
    exact of_decide_eq_true (List.all_eq_true.1 hall e h1)
set_option maxHeartbeats 3200000 in
theorem alone_applyNo (pb po i M : Nat) (o : Opm) (V0 : ByteArray → Option Value) (w : World) (h : OpAt w pb po o) (hf : OpFine o) (hI : InTabA w) (hF : FnS w M V0 fnL) (hi : i ≤ 200000) (hT : Tabs w) (hk : 1 ≤ o.kind ∧ o.kind ≤ 15) (hn : o.nin = inC o.kind) (hins : insB o i = true) (hkn : (o.kind == 1) = false ∧ (o.kind == 10) = false ∧ (o.kind == 11) = true ∧ (o.kind == 12) = false ∧ (o.kind == 13) = false) (hno : fnA o.name = -1) : Calls Tryz.prog 8 #[.pointer (some ⟨pb, po, none⟩), .int .i64 (i : Int), .map (some M)] w fun e w' => e = .returned (.int .i64 6) ∧ Below w.heap.size w w' := by
  have HL : Hid (∀ W, Below w.heap.size w W → (Instr.lookup 30 (.map (some M)) (.string o.name) true).run Tryz.prog W = .ok (.tuple #[.agg #[.int .i64 0, .nilFunc], .bool false]) W) := fun W hW => by
    have k := ((hF.below hW).vm.look hf.name Tryz.underlying30 (z := .agg #[.int .i64 0, .nilFunc]) (by kernel_rfl)).2
    have hv : V0 o.name = none := by
      rcases fn_look hF o.name with h1 | h1
      · exact h1.2
      · omega
    rw [hv] at k
    exact k
  obtain ⟨k, hkk⟩ : ∃ k : Nat, o.kind = (k : Int) := ⟨o.kind.toNat, by omega⟩
  have hk1 : 1 ≤ k := by omega
  have hk15 : k ≤ 15 := by omega
  have j0 := hI.1 k hk1 hk15
  have jz := hI.2
  obtain ⟨ia, icap, d1, hz⟩ := h.ins
  have d0 := h.kind
  have hpb := h.lt
  rw [hkk] at d0
  obtain ⟨_, _, e0, z1, z2, z3⟩ := hz
  cases e0
  have HZ3 := hidK z3
  unfold maxLen at z2
  have n1 : ¬ (k : Int) < 1 := by omega
  have n2 : ¬ (15 : Int) < (k : Int) := by omega
  have n3 : (k : Int) < 16 := by omega
  rw [hkk] at hn hkn
  have HALL : Hid (∀ j, j < o.nin → 0 ≤ o.ins j ∧ o.ins j < i) := fun j hj => insB_at hins hj
  obtain ⟨nn, hnn⟩ : ∃ nn, nn = o.nin := ⟨_, rfl⟩
  rw [← hn] at j0
  rw [← hnn] at j0 d1 z1
  rw [← hnn] at HZ3 HALL
  have HBB : Hid (∀ W, Below w.heap.size w W → OpAt W pb po o) := fun W hW => h.below hW
  clear hI hT hf h z3 hk hn hkk hins hnn hF hno
  go_enter Tryz.func8, Tryz.ntmps8
  go_upto_region 3 with fail
  go_quiet (fail)
  obtain ⟨V, hV⟩ : ∃ W, W = w.drewN nq := ⟨_, rfl⟩
  have hVc : ∀ x, V.cell? x = w.cell? x := fun x => by rw [hV]; rfl
  have HBV : Hid (Below w.heap.size w V) := by rw [hV]; exact drewK _ _ _
  rw [← hV]
  rw [← hVc] at d0 d1
  have hpb2 : pb < V.heap.size := Nat.lt_of_lt_of_le hpb HBV.out.size
  clear hV hVc j0
  go_wp2
  go_loop [42] (fun i' => ∃ j : Nat, j ≤ nn ∧ i' = .int .i64 (j : Int)) (fun i' => nn - (intOf i').toNat)
  case atStart => exact ⟨0, Nat.zero_le _, rfl⟩
  case round =>
    obtain ⟨j, hj, rfl⟩ := hrel
    by_cases hlt : j < nn
    · clear hkn
      obtain ⟨ib, io, rfl, hib, hcell⟩ := HZ3.out (by omega)
      have e1 : V.cell? ⟨ib, io + j, none⟩ = some (.int .i64 (o.ins j)) := (HBV.out.cell (p := ⟨ib, io + j, none⟩) hib).trans (hcell j (by omega))
      have hji : (j : Int) < (nn : Int) := by omega
      clear hcell
      obtain ⟨y0, y1⟩ := HALL.out j (by omega)
      have y2 : ¬ o.ins j < 0 := by omega
      have y3 : ¬ (i : Int) ≤ o.ins j := by omega
      generalize o.ins j = z at *
      go_wp2
      go_round
      case rel => exact ⟨j + 1, by omega, by go_num⟩
      case measure => simp [intOf]; omega
    · have hji : ¬ (j : Int) < (nn : Int) := by omega
      have hO := HBB.out V HBV.out
      obtain ⟨c1, c10, c11, c12, c13⟩ := hkn
      clear HBB HALL HZ3
      have d6 := hO.name
      have hl := HL.out V HBV.out
      clear hO HL
      go_wp2
      go_ret
      refine ⟨rfl, ?_⟩
      have hVz := HBV.out.size
      (focus (repeat (first | exact Below.refl _ _ | exact Hid.out (by assumption) | refine Below.setCell ?_ (by first | omega | (simp <;> omega)) _ | refine Below.alloc ?_ (by first | omega | (simp <;> omega)) _)))
set_option maxHeartbeats 3200000 in
theorem alone_applyYes (pb po i M : Nat) (o : Opm) (V0 : ByteArray → Option Value) (w : World) (h : OpAt w pb po o) (hf : OpFine o) (hI : InTabA w) (hF : FnS w M V0 fnL) (hi : i ≤ 200000) (hT : Tabs w) (hk : 1 ≤ o.kind ∧ o.kind ≤ 15) (hn : o.nin = inC o.kind) (hins : insB o i = true) (hkn : (o.kind == 1) = false ∧ (o.kind == 10) = false ∧ (o.kind == 11) = true ∧ (o.kind == 12) = false ∧ (o.kind == 13) = false) (hyes : 0 ≤ fnA o.name) : Calls Tryz.prog 8 #[.pointer (some ⟨pb, po, none⟩), .int .i64 (i : Int), .map (some M)] w fun e w' => e = .returned (.int .i64 0) ∧ Below w.heap.size w w' := by
  obtain ⟨fv, cv, hv⟩ : ∃ f caps, V0 o.name = some (.agg #[.int .i64 (fnA o.name), .func f #[] caps]) := by
    rcases fn_look hF o.name with h1 | h1
    · omega
    · exact h1.2
  have HL : Hid (∀ W, Below w.heap.size w W → (Instr.lookup 30 (.map (some M)) (.string o.name) true).run Tryz.prog W = .ok (.tuple #[.agg #[.int .i64 (fnA o.name), .func fv #[] cv], .bool true]) W) := fun W hW => by
    have k := ((hF.below hW).vm.look hf.name Tryz.underlying30 (z := .agg #[.int .i64 0, .nilFunc]) (by kernel_rfl)).2
    rw [hv] at k
    exact k
  obtain ⟨k, hkk⟩ : ∃ k : Nat, o.kind = (k : Int) := ⟨o.kind.toNat, by omega⟩
  have hk1 : 1 ≤ k := by omega
  have hk15 : k ≤ 15 := by omega
  have j0 := hI.1 k hk1 hk15
  have jz := hI.2
  obtain ⟨ia, icap, d1, hz⟩ := h.ins
  have d0 := h.kind
  have hpb := h.lt
  rw [hkk] at d0
  obtain ⟨_, _, e0, z1, z2, z3⟩ := hz
  cases e0
  have HZ3 := hidK z3
  unfold maxLen at z2
  have n1 : ¬ (k : Int) < 1 := by omega
  have n2 : ¬ (15 : Int) < (k : Int) := by omega
  have n3 : (k : Int) < 16 := by omega
  rw [hkk] at hn hkn
  have HALL : Hid (∀ j, j < o.nin → 0 ≤ o.ins j ∧ o.ins j < i) := fun j hj => insB_at hins hj
  obtain ⟨nn, hnn⟩ : ∃ nn, nn = o.nin := ⟨_, rfl⟩
  rw [← hn] at j0
  rw [← hnn] at j0 d1 z1
  rw [← hnn] at HZ3 HALL
  have HBB : Hid (∀ W, Below w.heap.size w W → OpAt W pb po o) := fun W hW => h.below hW
  clear hI hT hf h z3 hk hn hkk hins hnn hF hyes hv
  go_enter Tryz.func8, Tryz.ntmps8
  go_upto_region 3 with fail
  go_quiet (fail)
  obtain ⟨V, hV⟩ : ∃ W, W = w.drewN nq := ⟨_, rfl⟩
  have hVc : ∀ x, V.cell? x = w.cell? x := fun x => by rw [hV]; rfl
  have HBV : Hid (Below w.heap.size w V) := by rw [hV]; exact drewK _ _ _
  rw [← hV]
  rw [← hVc] at d0 d1
  have hpb2 : pb < V.heap.size := Nat.lt_of_lt_of_le hpb HBV.out.size
  clear hV hVc j0
  go_wp2
  go_loop [42] (fun i' => ∃ j : Nat, j ≤ nn ∧ i' = .int .i64 (j : Int)) (fun i' => nn - (intOf i').toNat)
  case atStart => exact ⟨0, Nat.zero_le _, rfl⟩
  case round =>
    obtain ⟨j, hj, rfl⟩ := hrel
    by_cases hlt : j < nn
    · clear hkn
      obtain ⟨ib, io, rfl, hib, hcell⟩ := HZ3.out (by omega)
      have e1 : V.cell? ⟨ib, io + j, none⟩ = some (.int .i64 (o.ins j)) := (HBV.out.cell (p := ⟨ib, io + j, none⟩) hib).trans (hcell j (by omega))
      have hji : (j : Int) < (nn : Int) := by omega
      clear hcell
      obtain ⟨y0, y1⟩ := HALL.out j (by omega)
      have y2 : ¬ o.ins j < 0 := by omega
      have y3 : ¬ (i : Int) ≤ o.ins j := by omega
      generalize o.ins j = z at *
      go_wp2
      go_round
      case rel => exact ⟨j + 1, by omega, by go_num⟩
      case measure => simp [intOf]; omega
    · have hji : ¬ (j : Int) < (nn : Int) := by omega
      have hO := HBB.out V HBV.out
      obtain ⟨c1, c10, c11, c12, c13⟩ := hkn
      clear HBB HALL HZ3
      have d6 := hO.name
      have hl := HL.out V HBV.out
      clear hO HL
      generalize fnA o.name = ff at *
      go_wp2
      go_ret
      refine ⟨rfl, ?_⟩
      have hVz := HBV.out.size
      (focus (repeat (first | exact Below.refl _ _ | exact Hid.out (by assumption) | refine Below.setCell ?_ (by first | omega | (simp <;> omega)) _ | refine Below.alloc ?_ (by first | omega | (simp <;> omega)) _)))
set_option maxHeartbeats 3200000 in
theorem alone_walk (pb po i M : Nat) (o : Opm) (V0 : ByteArray → Option Value) (w : World) (h : OpAt w pb po o) (hf : OpFine o) (hI : InTabA w) (hF : FnS w M V0 fnL) (hi : i ≤ 200000) (hT : Tabs w) (hStep : StepNil) (hk : 1 ≤ o.kind ∧ o.kind ≤ 15) (hn : o.nin = inC o.kind) (hins : insB o i = true) (hkn : (o.kind == 1) = false ∧ (o.kind == 10) = false ∧ (o.kind == 11) = false ∧ (o.kind == 12) = true ∧ (o.kind == 13) = false) : Calls Tryz.prog 8 #[.pointer (some ⟨pb, po, none⟩), .int .i64 (i : Int), .map (some M)] w fun e w' => e = .returned (.int .i64 (if stepB o.axis o.tk = true then 0 else 3)) ∧ Below w.heap.size w w' := by
  have CK : Hid (∀ W, Calls Tryz.prog 65 #[.slice none 0 0, .slice none 0 0, .int .i64 o.axis, .agg #[.int .i64 o.tk, .string o.tn]] W fun e w' => (∃ u, e = .returned (.tuple #[u, .int .i64 (if stepB o.axis o.tk = true then 0 else 3)])) ∧ Below W.heap.size W w') := fun W => hStep W _ _ _ hf.tn
  generalize (if stepB o.axis o.tk = true then (0 : Int) else 3) = R at *
  obtain ⟨k, hkk⟩ : ∃ k : Nat, o.kind = (k : Int) := ⟨o.kind.toNat, by omega⟩
  have hk1 : 1 ≤ k := by omega
  have hk15 : k ≤ 15 := by omega
  have j0 := hI.1 k hk1 hk15
  have jz := hI.2
  obtain ⟨ia, icap, d1, hz⟩ := h.ins
  have d0 := h.kind
  have hpb := h.lt
  rw [hkk] at d0
  obtain ⟨_, _, e0, z1, z2, z3⟩ := hz
  cases e0
  have HZ3 := hidK z3
  unfold maxLen at z2
  have n1 : ¬ (k : Int) < 1 := by omega
  have n2 : ¬ (15 : Int) < (k : Int) := by omega
  have n3 : (k : Int) < 16 := by omega
  rw [hkk] at hn hkn
  have HALL : Hid (∀ j, j < o.nin → 0 ≤ o.ins j ∧ o.ins j < i) := fun j hj => insB_at hins hj
  obtain ⟨nn, hnn⟩ : ∃ nn, nn = o.nin := ⟨_, rfl⟩
  rw [← hn] at j0
  rw [← hnn] at j0 d1 z1
  rw [← hnn] at HZ3 HALL
  have HBB : Hid (∀ W, Below w.heap.size w W → OpAt W pb po o) := fun W hW => h.below hW
  clear hI hT hf h z3 hk hn hkk hins hnn hF
  go_enter Tryz.func8, Tryz.ntmps8
  go_upto_region 3 with fail
  go_quiet (fail)
  obtain ⟨V, hV⟩ : ∃ W, W = w.drewN nq := ⟨_, rfl⟩
  have hVc : ∀ x, V.cell? x = w.cell? x := fun x => by rw [hV]; rfl
  have HBV : Hid (Below w.heap.size w V) := by rw [hV]; exact drewK _ _ _
  rw [← hV]
  rw [← hVc] at d0 d1
  have hpb2 : pb < V.heap.size := Nat.lt_of_lt_of_le hpb HBV.out.size
  clear hV hVc j0
  go_wp2
  go_loop [42] (fun i' => ∃ j : Nat, j ≤ nn ∧ i' = .int .i64 (j : Int)) (fun i' => nn - (intOf i').toNat)
  case atStart => exact ⟨0, Nat.zero_le _, rfl⟩
  case round =>
    obtain ⟨j, hj, rfl⟩ := hrel
    by_cases hlt : j < nn
    · clear hkn
      obtain ⟨ib, io, rfl, hib, hcell⟩ := HZ3.out (by omega)
      have e1 : V.cell? ⟨ib, io + j, none⟩ = some (.int .i64 (o.ins j)) := (HBV.out.cell (p := ⟨ib, io + j, none⟩) hib).trans (hcell j (by omega))
      have hji : (j : Int) < (nn : Int) := by omega
      clear hcell
      obtain ⟨y0, y1⟩ := HALL.out j (by omega)
      have y2 : ¬ o.ins j < 0 := by omega
      have y3 : ¬ (i : Int) ≤ o.ins j := by omega
      generalize o.ins j = z at *
      go_wp2
      go_round
      case rel => exact ⟨j + 1, by omega, by go_num⟩
      case measure => simp [intOf]; omega
    · have hji : ¬ (j : Int) < (nn : Int) := by omega
      have hO := HBB.out V HBV.out
      obtain ⟨c1, c10, c11, c12, c13⟩ := hkn
      clear HBB HALL HZ3
      have HS : Hid (∀ W, Below V.heap.size V W → W.cell? ⟨pb, po + 8, none⟩ = some (.int .i64 o.axis) ∧ W.cell? ⟨pb, po + 9, none⟩ = some (.int .i64 o.tk) ∧ W.cell? ⟨pb, po + 10, none⟩ = some (.string o.tn)) := fun W hW => ⟨(hW.cell (p := ⟨pb, po + 8, none⟩) hpb2).trans hO.axis, (hW.cell (p := ⟨pb, po + 9, none⟩) hpb2).trans hO.tk, (hW.cell (p := ⟨pb, po + 10, none⟩) hpb2).trans hO.tn⟩
      obtain ⟨s0, s1, s2⟩ := HS.out V (Below.refl _ _)
      clear hO
      generalize o.axis = ax at *
      generalize o.tk = tk at *
      generalize o.tn = tn at *
      go_upto_region 21 with fail
      go_region_held3 (fun W => W.cell? ⟨pb, po + 8, none⟩ = some (.int .i64 ax) ∧ W.cell? ⟨pb, po + 9, none⟩ = some (.int .i64 tk) ∧ W.cell? ⟨pb, po + 10, none⟩ = some (.string tn))
        ((refine HS.out _ ?_; (focus (repeat (first | exact Hid.out (by assumption) | exact Below.refl _ _ | refine Below.drew ?_)))))
        (first | (go_at_call 65; refine (CK.out _).mono ?_; rintro e w1 ⟨⟨u, rfl⟩, hb1⟩; have HB1 : Hid (Below V.heap.size V w1) := Below.trans (by (focus (repeat (first | exact Hid.out (by assumption) | exact Below.refl _ _ | refine Below.drew ?_)))) (hb1.mono (Nat.le_refl _)); obtain ⟨s0, s1, s2⟩ := HS.out _ HB1.out; clear hb1 CK))
      go_wp2
      go_ret
      exact ⟨rfl, HBV.out.trans (HB1.out.mono HBV.out.size)⟩
set_option maxHeartbeats 3200000 in
theorem alone_make (pb po i M : Nat) (o : Opm) (V0 : ByteArray → Option Value) (w : World) (h : OpAt w pb po o) (hf : OpFine o) (hI : InTabA w) (hF : FnS w M V0 fnL) (hi : i ≤ 200000) (hT : Tabs w) (hk : 1 ≤ o.kind ∧ o.kind ≤ 15) (hn : o.nin = inC o.kind) (hins : insB o i = true) (hkn : (o.kind == 1) = false ∧ (o.kind == 10) = false ∧ (o.kind == 11) = false ∧ (o.kind == 12) = false ∧ (o.kind == 13) = true) : Calls Tryz.prog 8 #[.pointer (some ⟨pb, po, none⟩), .int .i64 (i : Int), .map (some M)] w fun e w' => e = .returned (.int .i64 (makeF o.n o.name)) ∧ Below w.heap.size w w' := by
  have CK : Hid (∀ W, Calls Tryz.prog 66 #[.int .i64 o.n, .string o.name] W fun e w' => e = .returned (.int .i64 (makeF o.n o.name)) ∧ Below W.heap.size W w') := fun W => checkMake_is _ _ W hf.name
  generalize makeF o.n o.name = R at *
  obtain ⟨k, hkk⟩ : ∃ k : Nat, o.kind = (k : Int) := ⟨o.kind.toNat, by omega⟩
  have hk1 : 1 ≤ k := by omega
  have hk15 : k ≤ 15 := by omega
  have j0 := hI.1 k hk1 hk15
  have jz := hI.2
  obtain ⟨ia, icap, d1, hz⟩ := h.ins
  have d0 := h.kind
  have hpb := h.lt
  rw [hkk] at d0
  obtain ⟨_, _, e0, z1, z2, z3⟩ := hz
  cases e0
  have HZ3 := hidK z3
  unfold maxLen at z2
  have n1 : ¬ (k : Int) < 1 := by omega
  have n2 : ¬ (15 : Int) < (k : Int) := by omega
  have n3 : (k : Int) < 16 := by omega
  rw [hkk] at hn hkn
  have HALL : Hid (∀ j, j < o.nin → 0 ≤ o.ins j ∧ o.ins j < i) := fun j hj => insB_at hins hj
  obtain ⟨nn, hnn⟩ : ∃ nn, nn = o.nin := ⟨_, rfl⟩
  rw [← hn] at j0
  rw [← hnn] at j0 d1 z1
  rw [← hnn] at HZ3 HALL
  have HBB : Hid (∀ W, Below w.heap.size w W → OpAt W pb po o) := fun W hW => h.below hW
  clear hI hT hf h z3 hk hn hkk hins hnn hF
  go_enter Tryz.func8, Tryz.ntmps8
  go_upto_region 3 with fail
  go_quiet (fail)
  obtain ⟨V, hV⟩ : ∃ W, W = w.drewN nq := ⟨_, rfl⟩
  have hVc : ∀ x, V.cell? x = w.cell? x := fun x => by rw [hV]; rfl
  have HBV : Hid (Below w.heap.size w V) := by rw [hV]; exact drewK _ _ _
  rw [← hV]
  rw [← hVc] at d0 d1
  have hpb2 : pb < V.heap.size := Nat.lt_of_lt_of_le hpb HBV.out.size
  clear hV hVc j0
  go_wp2
  go_loop [42] (fun i' => ∃ j : Nat, j ≤ nn ∧ i' = .int .i64 (j : Int)) (fun i' => nn - (intOf i').toNat)
  case atStart => exact ⟨0, Nat.zero_le _, rfl⟩
  case round =>
    obtain ⟨j, hj, rfl⟩ := hrel
    by_cases hlt : j < nn
    · clear hkn
      obtain ⟨ib, io, rfl, hib, hcell⟩ := HZ3.out (by omega)
      have e1 : V.cell? ⟨ib, io + j, none⟩ = some (.int .i64 (o.ins j)) := (HBV.out.cell (p := ⟨ib, io + j, none⟩) hib).trans (hcell j (by omega))
      have hji : (j : Int) < (nn : Int) := by omega
      clear hcell
      obtain ⟨y0, y1⟩ := HALL.out j (by omega)
      have y2 : ¬ o.ins j < 0 := by omega
      have y3 : ¬ (i : Int) ≤ o.ins j := by omega
      generalize o.ins j = z at *
      go_wp2
      go_round
      case rel => exact ⟨j + 1, by omega, by go_num⟩
      case measure => simp [intOf]; omega
    · have hji : ¬ (j : Int) < (nn : Int) := by omega
      have hO := HBB.out V HBV.out
      obtain ⟨c1, c10, c11, c12, c13⟩ := hkn
      clear HBB HALL HZ3
      have HS : Hid (∀ W, Below V.heap.size V W → W.cell? ⟨pb, po + 7, none⟩ = some (.int .i64 o.n) ∧ W.cell? ⟨pb, po + 6, none⟩ = some (.string o.name)) := fun W hW => ⟨(hW.cell (p := ⟨pb, po + 7, none⟩) hpb2).trans hO.n, (hW.cell (p := ⟨pb, po + 6, none⟩) hpb2).trans hO.name⟩
      obtain ⟨s0, s1⟩ := HS.out V (Below.refl _ _)
      clear hO
      generalize o.n = ax at *
      generalize o.name = tn at *
      go_upto_region 24 with fail
      go_region_held3 (fun W => W.cell? ⟨pb, po + 7, none⟩ = some (.int .i64 ax) ∧ W.cell? ⟨pb, po + 6, none⟩ = some (.string tn))
        ((refine HS.out _ ?_; (focus (repeat (first | exact Hid.out (by assumption) | exact Below.refl _ _ | refine Below.drew ?_)))))
        (first | (go_at_call 66; refine (CK.out _).mono ?_; rintro e w1 ⟨rfl, hb1⟩; have HB1 : Hid (Below V.heap.size V w1) := Below.trans (by (focus (repeat (first | exact Hid.out (by assumption) | exact Below.refl _ _ | refine Below.drew ?_)))) (hb1.mono (Nat.le_refl _)); obtain ⟨s0, s1⟩ := HS.out _ HB1.out; clear hb1 CK))
      go_wp2
      go_ret
      exact ⟨rfl, HBV.out.trans (HB1.out.mono HBV.out.size)⟩
theorem fnA_cases (s : ByteArray) : fnA s = -1 ∨ 0 ≤ fnA s := by
  cases he : fnL.find? (fun e => e.name.toList == s.toList) with
  | none => exact .inl (fnA_none he)
  | some e =>
    rw [fnA_some he]
    have hall : fnL.all (fun e => decide (0 ≤ e.args)) = true := by kernel_rfl
    exact .inr (of_decide_eq_true (List.all_eq_true.1 hall e (List.mem_of_find?_eq_some he)))
/-- what is refused of an op alone -/
theorem checkAlone_is (pb po i M : Nat) (o : Opm) (V0 : ByteArray → Option Value) (w : World) (h : OpAt w pb po o) (hf : OpFine o) (hI : InTabA w) (hF : FnS w M V0 fnL) (hi : i ≤ 200000) (hT : Tabs w) (hStep : StepNil) : Calls Tryz.prog 8 #[.pointer (some ⟨pb, po, none⟩), .int .i64 (i : Int), .map (some M)] w fun e w' => e = .returned (.int .i64 (aloF o i)) ∧ Below w.heap.size w w' := by
  unfold aloF
  by_cases hk : 1 ≤ o.kind ∧ o.kind ≤ 15
  · rw [if_pos hk]
    by_cases hn : o.nin = inC o.kind
    · rw [if_pos hn]
      by_cases hins : insB o i = true
      · rw [if_pos hins]
        unfold ownF
        by_cases k1 : o.kind = 1
        · rw [if_pos k1]
          exact alone_table pb po i M o V0 w h hf hI hF hi hT hk hn hins (by rw [k1]; decide)
        rw [if_neg k1]
        by_cases k10 : o.kind = 10
        · rw [if_pos k10]
          exact alone_group pb po i M o V0 w h hf hI hF hi hT hk hn hins (by rw [k10]; decide)
        rw [if_neg k10]
        by_cases k11 : o.kind = 11
        · rw [if_pos k11]
          rcases fnA_cases o.name with hfn | hfn
          · rw [if_pos (by omega)]
            exact alone_applyNo pb po i M o V0 w h hf hI hF hi hT hk hn hins (by rw [k11]; decide) hfn
          · rw [if_neg (by omega)]
            exact alone_applyYes pb po i M o V0 w h hf hI hF hi hT hk hn hins (by rw [k11]; decide) hfn
        rw [if_neg k11]
        by_cases k12 : o.kind = 12
        · rw [if_pos k12]
          exact alone_walk pb po i M o V0 w h hf hI hF hi hT hStep hk hn hins (by rw [k12]; decide)
        rw [if_neg k12]
        by_cases k13 : o.kind = 13
        · rw [if_pos k13]
          exact alone_make pb po i M o V0 w h hf hI hF hi hT hk hn hins (by rw [k13]; decide)
        rw [if_neg k13]
        exact alone_rest pb po i M o V0 w h hf hI hF hi hT hk hn hins (by simp [k1, k10, k11, k12, k13])
      · rw [if_neg hins]
        exact alone_range pb po i M o V0 w h hf hI hF hi hT hk hn hins
    · rw [if_neg hn]
      exact alone_count pb po i M o V0 w h hf hI hF hi hT hk hn
  · rw [if_neg hk]
    exact alone_kind pb po i M o V0 w h hf hI hF hi hT hk
end Go.Proofs.YtkcejelmohameaaGreatDoor
