/-
  CONTRACT of rel.Join.
-/
import Derived.Test.YtkcejelmohameaaGreatDoorRlCrossI
import Derived.Sort.AtCall
set_option linter.unusedVariables false
namespace Go.Proofs.YtkcejelmohameaaGreatDoor
set_option maxRecDepth 100000
open Go.RowKit Go.WideShapes

/-- a column's items -/
def jI (R : Nat → Row) (p k : Nat) : It := (R k).at_ p
/-- how many partners a row has, and which -/
def jpn (R R' : Nat → Row) (m' p p' k : Nat) : Nat := keptN (matchK (jI R' p') (jI R p k)) m'
def jPR (R R' : Nat → Row) (m' p p' k i : Nat) : Row := R' (keptAt (matchK (jI R' p') (jI R p k)) m' i)
def joP (C : Nat → ByteArray) (n : Nat) (x : ByteArray) : Nat := (colI C n x).toNat
/-- what is told of a join -/
def joF (C : Nat → ByteArray) (n : Nat) (R : Nat → Row) (m : Nat) (C' : Nat → ByteArray) (n' : Nat) (R' : Nat → Row) (m' : Nat) (x y : ByteArray) : Int :=
  if twoF (relF C n R m) (relF C' n' R' m') = 0 then (if colI C n x = -1 ∨ colI C' n' y = -1 then 9 else madeF (colsT C n C' n') (n + n') (pairN (jpn R R' m' (joP C n x) (joP C' n' y)) m)) else twoF (relF C n R m) (relF C' n' R' m')
def joN (R : Nat → Row) (m : Nat) (R' : Nat → Row) (m' p p' : Nat) : Nat := pairN (jpn R R' m' p p') m
def joR (R : Nat → Row) (m : Nat) (R' : Nat → Row) (m' p p' : Nat) : Nat → Row := pairR (jpn R R' m' p p') (jPR R R' m' p p') R m
/-- both relations may be: so few columns, and names that are not too long -/
theorem fine_two {C C' : Nat → ByteArray} {n n' m m' : Nat} {R R' : Nat → Row} (h : twoF (relF C n R m) (relF C' n' R' m') = 0) (hf : StrsFine n C) (hf' : StrsFine n' C') : StrsFine (n + n') (colsT C n C' n') := by
  obtain ⟨h1, h2⟩ := twoF_zero h
  have k1 := colsF_le (relF_zero h1).1
  have k2 := colsF_le (relF_zero h2).1
  refine ⟨by omega, fun i hi => ?_⟩
  show ((if i < n then C i else C' (i - n)) : ByteArray).size ≤ _
  by_cases e : i < n
  · rw [if_pos e]; exact hf.2 i e
  · rw [if_neg e]; exact hf'.2 _ (by omega)
/-- all but one block is as it was -/
def ButOne (w w' : World) (b : Nat) : Prop := w.heap.size ≤ w'.heap.size ∧ w'.os = w.os ∧ w'.tape = w.tape ∧ w'.output = w.output ∧ ∀ c, c < w.heap.size → c ≠ b → w'.heap[c]? = w.heap[c]?
theorem ButOne.refl (w : World) (b : Nat) : ButOne w w b := ⟨Nat.le_refl _, rfl, rfl, rfl, fun _ _ _ => rfl⟩
theorem ButOne.below {a b : World} {k B : Nat} (h : ButOne a b k) (hk : B ≤ k) (hB : B ≤ a.heap.size) : Below B a b :=
  ⟨h.2.1, h.2.2.1, h.2.2.2.1, h.1, fun x hx => h.2.2.2.2 x (by omega) (by omega)⟩
theorem ButOne.cell {a b : World} {k : Nat} (h : ButOne a b k) {p : Addr} (h1 : p.block < a.heap.size) (h2 : p.block ≠ k) : b.cell? p = a.cell? p := World.cell?_of_block (h.2.2.2.2 _ h1 h2)
theorem one_new (W : World) (v : Value) (T : TypeId) : (W.alloc (.cells #[v] T)).cell? ⟨W.heap.size, 0, none⟩ = some v := by simp
/-- a place for a number, a map, and a place for it were made -/
theorem jmade (w1 : World) (p : Nat) : JMap (((w1.alloc (.cells #[.int .i64 (p : Int)] 3)).alloc (.map #[] 0)).alloc (.cells #[.map (some (w1.heap.size + 1))] 156)) (w1.heap.size + 1) (w1.heap.size + 3) (fun _ => []) ∧ World.cell? (((w1.alloc (.cells #[.int .i64 (p : Int)] 3)).alloc (.map #[] 0)).alloc (.cells #[.map (some (w1.heap.size + 1))] 156)) ⟨w1.heap.size, 0, none⟩ = some (.int .i64 (p : Int)) ∧ World.cell? (((w1.alloc (.cells #[.int .i64 (p : Int)] 3)).alloc (.map #[] 0)).alloc (.cells #[.map (some (w1.heap.size + 1))] 156)) ⟨w1.heap.size + 1 + 1, 0, none⟩ = some (.map (some (w1.heap.size + 1))) ∧ (World.heap (((w1.alloc (.cells #[.int .i64 (p : Int)] 3)).alloc (.map #[] 0)).alloc (.cells #[.map (some (w1.heap.size + 1))] 156))).size = w1.heap.size + 3 ∧ Below w1.heap.size w1 (((w1.alloc (.cells #[.int .i64 (p : Int)] 3)).alloc (.map #[] 0)).alloc (.cells #[.map (some (w1.heap.size + 1))] 156)) := by
  have hs := JMap.made (w1.alloc (.cells #[.int .i64 (p : Int)] 3)) (w1.heap.size + 3) (by simp)
  rw [show (w1.alloc (.cells #[.int .i64 (p : Int)] 3)).heap.size = w1.heap.size + 1 by simp] at hs
  have h12 : Below (w1.heap.size + 1) (w1.alloc (.cells #[.int .i64 (p : Int)] 3)) (((w1.alloc (.cells #[.int .i64 (p : Int)] 3)).alloc (.map #[] 0)).alloc (.cells #[.map (some (w1.heap.size + 1))] 156)) := ((Below.refl _ _).alloc (by simp) _).alloc (by simp) _
  have a2 := one_new ((w1.alloc (.cells #[.int .i64 (p : Int)] 3)).alloc (.map #[] 0)) (.map (some (w1.heap.size + 1))) 156
  rw [show ((w1.alloc (.cells #[.int .i64 (p : Int)] 3)).alloc (.map #[] 0)).heap.size = w1.heap.size + 1 + 1 by simp] at a2
  have hk : Below ((w1.alloc (.cells #[.int .i64 (p : Int)] 3)).alloc (.map #[] 0)).heap.size ((w1.alloc (.cells #[.int .i64 (p : Int)] 3)).alloc (.map #[] 0)) (((w1.alloc (.cells #[.int .i64 (p : Int)] 3)).alloc (.map #[] 0)).alloc (.cells #[.map (some (w1.heap.size + 1))] 156)) := (Below.refl _ _).alloc (Nat.le_refl _) _
  exact ⟨hs.keep (hk.block _ (by simp)) (fun b h1 h2 => hk.block b h2), (h12.cell (p := ⟨w1.heap.size, 0, none⟩) (Nat.lt_succ_self _)).trans (one_new _ _ _), a2, by simp, (((Below.refl _ _).alloc (Nat.le_refl _) _).alloc (by simp) _).alloc (by simp <;> omega) _⟩
/-- a list of values of rows is a list of rows -/
theorem rows_vals {W : World} {base N : Nat} {v : Value} {us : List Value} {PR : Nat → Row} (h : W.ownsRow base 94 1 v N us) (hl : us.length = N) (hr : ∀ i, i < N → ∃ u, us[i]? = some u ∧ ItsIs W u (PR i).len (PR i).at_) : RowsIs W v N PR := by
  have h8 := h
  obtain ⟨_, ⟨rfl, h3⟩ | ⟨b, cap, cur, rfl, q1, q2, q3, q4, _⟩⟩ := h
  · subst h3
    exact ⟨none, 0, rfl, Nat.le_refl _, Nat.zero_le _, fun _ => rfl, fun h => absurd h (Nat.lt_irrefl _)⟩
  · refine ⟨_, cap, rfl, q3, q4, (fun h => nomatch h), fun h0 => ⟨b, 0, rfl, (Array.getElem?_eq_some_iff.1 q2).1, fun i hi => ?_⟩⟩
    obtain ⟨u, k1, k2⟩ := hr i hi
    exact ⟨u, by rw [Nat.zero_add, h8.cellAt _ (by omega), k1], k2⟩
theorem keptAt_lt {K : Nat → Bool} {k m i : Nat} (hk : k ≤ m) (hi : i < keptN K k) : keptAt K m i < k := by
  induction k with
  | zero => exact absurd hi (by simp [keptN, keptL])
  | succ k ih =>
    cases h : K k
    · rw [keptN_no h] at hi
      have := ih (by omega) hi
      omega
    · rw [keptN_yes h] at hi
      by_cases e : i = keptN K k
      · subst e
        rw [keptAt_at (by omega) h]
        omega
      · have := ih (by omega) (by omega)
        omega
set_option maxHeartbeats 12800000 in
theorem join_is (c q c' q' : Value) (n m n' m' : Nat) (C C' : Nat → ByteArray) (R R' : Nat → Row) (x y : ByteArray) (w : World) (hc : StrsIs w c n C) (hq : RowsIs w q m R) (hf : StrsFine n C) (hg : RowsFine m R) (hc' : StrsIs w c' n' C') (hq' : RowsIs w q' m' R') (hf' : StrsFine n' C') (hg' : RowsFine m' R') (hT : Tabs w) :
    Calls Tryz.prog 101 #[.agg #[c, q], .agg #[c', q'], .string x, .string y] w fun e w' => ∃ c1 q1, e = .returned (.tuple #[.agg #[c1, q1], .int .i64 (joF C n R m C' n' R' m' x y)]) ∧ FreshRel w w' c1 q1 (okN (joF C n R m C' n' R' m' x y) (n + n')) (okN (joF C n R m C' n' R' m' x y) (joN R m R' m' (joP C n x) (joP C' n' y))) (colsT C n C' n') (joR R m R' m' (joP C n x) (joP C' n' y)) ∧ Below w.heap.size w w' := by
  have C1 : Hid (∀ o o' o'', Calls Tryz.prog 137 #[.agg #[c, q], .agg #[c', q']] (((w.alloc o).alloc o').alloc o'') fun e w' => e = .returned (.int .i64 (twoF (relF C n R m) (relF C' n' R' m'))) ∧ Below (w.heap.size + 3) (((w.alloc o).alloc o').alloc o'') w') := fun o o' o'' => by
    have h := checkBoth_is c q c' q' n m n' m' C C' R R' _ (hc.below (below_three o o' o'')) (hq.below (below_three o o' o'')) hf hg (hc'.below (below_three o o' o'')) (hq'.below (below_three o o' o'')) hf' hg' (Utf8Tabs_below hT (below_three o o' o''))
    rwa [size_three] at h
  have HW : Hid (∀ {W : World} {o o' o'' : Obj}, Below (w.heap.size + 3) (((w.alloc o).alloc o').alloc o'') W → Below w.heap.size w W) := fun h => (below_three _ _ _).trans (h.mono (by omega))
  have CO : Hid (∀ W, Below w.heap.size w W → Calls Tryz.prog 122 #[c, .string x] W fun e w' => e = .returned (.tuple #[.int .i64 (colV C n x), .int .i64 (colF C n x)]) ∧ w' = W) := fun W hW => column_is c n C x W (hc.below hW)
  have CO' : Hid (∀ W, Below w.heap.size w W → Calls Tryz.prog 122 #[c', .string y] W fun e w' => e = .returned (.tuple #[.int .i64 (colV C' n' y), .int .i64 (colF C' n' y)]) ∧ w' = W) := fun W hW => column_is c' n' C' y W (hc'.below hW)
  have HC : Hid (∀ W, Below w.heap.size w W → StrsIs W c n C) := fun W hW => hc.below hW
  have HC' : Hid (∀ W, Below w.heap.size w W → StrsIs W c' n' C') := fun W hW => hc'.below hW
  have HQR : Hid (∀ W, Below w.heap.size w W → RowsIs W q m R) := fun W hW => hq.below hW
  have HGF : Hid (RowsFine m R) := hg
  have HGF' : Hid (RowsFine m' R') := hg'
  have HFF1 : Hid (StrsFine n C) := hf
  have HFF2 : Hid (StrsFine n' C') := hf'
  obtain ⟨qa, qcap, rfl, _⟩ := hq
  obtain ⟨qa', qcap', rfl, q1', q2', _, q3'⟩ := hq'
  obtain ⟨rv, hrv⟩ : ∃ rv : Nat → Value, ∀ i, i < m' → ∃ b off, qa' = some ⟨b, off, none⟩ ∧ b < w.heap.size ∧ ∀ W, Below w.heap.size w W → W.cell? ⟨b, off + i, none⟩ = some (rv i) ∧ ItsIs W (rv i) (R' i).len (R' i).at_ := by
    have hx : ∀ i : Nat, ∃ u : Value, i < m' → ∃ b off, qa' = some ⟨b, off, none⟩ ∧ b < w.heap.size ∧ ∀ W, Below w.heap.size w W → W.cell? ⟨b, off + i, none⟩ = some u ∧ ItsIs W u (R' i).len (R' i).at_ := fun i => by
      by_cases hi : i < m'
      · obtain ⟨b, off, h1, h2, h3⟩ := q3' (by omega)
        obtain ⟨u, h4, h5⟩ := h3 i hi
        exact ⟨u, fun _ => ⟨b, off, h1, h2, fun W hW => ⟨(hW.cell (p := ⟨b, off + i, none⟩) h2).trans h4, h5.below hW⟩⟩⟩
      · exact ⟨.slice none 0 0, fun h => absurd h hi⟩
    obtain ⟨f, hf⟩ := Classical.axiomOfChoice hx
    exact ⟨f, hf⟩
  have HRV : Hid (∀ i, i < m' → ∃ b off, qa' = some ⟨b, off, none⟩ ∧ b < w.heap.size ∧ ∀ W, Below w.heap.size w W → W.cell? ⟨b, off + i, none⟩ = some (rv i) ∧ ItsIs W (rv i) (R' i).len (R' i).at_) := hrv
  obtain ⟨ca, ccap, rfl, _⟩ := hc
  obtain ⟨ca', ccap', rfl, _⟩ := hc'
  clear hf hg hf' hg' hT q2' q3' hrv
  by_cases h0 : twoF (relF C n R m) (relF C' n' R' m') = 0
  · obtain ⟨ha, hb⟩ := twoF_zero h0
    have hm6 : m ≤ 1000000 := (relF_zero ha).2.1
    have hm6' : m' ≤ 1000000 := (relF_zero hb).2.1
    have hn8 : n ≤ 8 := colsF_le (relF_zero ha).1
    have hn8' : n' ≤ 8 := colsF_le (relF_zero hb).1
    have HLEN : Hid (∀ i, i < m → (R i).len = n) := row_len ha
    have HLEN' : Hid (∀ i, i < m' → (R' i).len = n') := row_len hb
    have HFIT : Hid (∀ i, i < m → ∀ t, t < n → fitI ((R i).at_ t)) := fit_rel ha HGF.out
    have HFIT' : Hid (∀ i, i < m' → ∀ t, t < n' → fitI ((R' i).at_ t)) := fit_rel hb HGF'.out
    have HFT : Hid (StrsFine (n + n') (colsT C n C' n')) := fine_two h0 HFF1.out HFF2.out
    have HUF : Hid (joF C n R m C' n' R' m' x y = if colI C n x = -1 ∨ colI C' n' y = -1 then 9 else madeF (colsT C n C' n') (n + n') (joN R m R' m' (joP C n x) (joP C' n' y))) := if_pos h0
    rw [h0] at C1
    clear h0 ha hb
    generalize joF C n R m C' n' R' m' x y = F at *
    rcases colI_cases C n x with hcol | ⟨p, hp, hcol⟩
    · have HFF : Hid (F = 9) := HUF.out.trans (if_pos (.inl hcol))
      rw [(colF_no hcol).1, (colF_no hcol).2] at CO
      clear hcol HUF
      generalize joN R m R' m' (joP C n x) (joP C' n' y) = N1 at *
      generalize joR R m R' m' (joP C n x) (joP C' n' y) = U at *
      go_enter Tryz.func101, Tryz.ntmps101
      go_wp2_with (first
        | (go_at_call 137; refine (C1.out _ _ _).mono ?_; rintro e w1 ⟨rfl, hb1⟩; have HB1 : Hid (Below (w.heap.size + 3) (((w.alloc (.cells #[.slice ca n ccap, .slice qa m qcap] 40)).alloc (.cells #[.slice ca' n' ccap', .slice qa' m' qcap'] 40)).alloc (.cells #[.slice none 0 0, .slice none 0 0] 40)) w1) := hb1; obtain ⟨x0, x1, x2, x3, x4, x5, x6, x7, x8⟩ := box3 hb1; have x9 : w.heap.size < w1.heap.size := (by omega); have x10 : w.heap.size + 1 < w1.heap.size := (by omega); clear hb1)
        | (go_at_call 122; refine (CO.out _ (HW.out HB1.out)).mono ?_; rintro e w2 ⟨rfl, rfl⟩))
      refine bodyPost_ret (v := .tuple #[.agg #[.slice none 0 0, .slice none 0 0], .int .i64 9]) (by simp [results, Tryz.results101, go_sem, x4, x5, x8]) rfl ⟨_, _, by rw [HFF.out], ?_, ?_⟩
      · rw [HFF.out]; exact FreshRel.nil _ _ _ _
      · exact (((HW.out HB1.out).setCell (by simp <;> omega) _).setCell (by simp <;> omega) _).alloc (by simp <;> omega) _
    · rw [(colF_of hcol).1, (colF_of hcol).2] at CO
      rcases colI_cases C' n' y with hcol' | ⟨p', hp', hcol'⟩
      · have HFF : Hid (F = 9) := HUF.out.trans (if_pos (.inr hcol'))
        rw [(colF_no hcol').1, (colF_no hcol').2] at CO'
        clear hcol hcol' HUF
        generalize joN R m R' m' (joP C n x) (joP C' n' y) = N1 at *
        generalize joR R m R' m' (joP C n x) (joP C' n' y) = U at *
        go_enter Tryz.func101, Tryz.ntmps101
        go_wp2_with (first
          | (go_at_call 137; refine (C1.out _ _ _).mono ?_; rintro e w1 ⟨rfl, hb1⟩; have HB1 : Hid (Below (w.heap.size + 3) (((w.alloc (.cells #[.slice ca n ccap, .slice qa m qcap] 40)).alloc (.cells #[.slice ca' n' ccap', .slice qa' m' qcap'] 40)).alloc (.cells #[.slice none 0 0, .slice none 0 0] 40)) w1) := hb1; obtain ⟨x0, x1, x2, x3, x4, x5, x6, x7, x8⟩ := box3 hb1; have x9 : w.heap.size < w1.heap.size := (by omega); have x10 : w.heap.size + 1 < w1.heap.size := (by omega); clear hb1)
          | (go_at_call_has 122 (Value.slice ca n ccap); refine (CO.out _ (HW.out HB1.out)).mono ?_; rintro e w2 ⟨rfl, rfl⟩)
          | (go_at_call_has 122 (Value.slice ca' n' ccap'); refine (CO'.out _ ((HW.out HB1.out).alloc (by omega) _)).mono ?_; rintro e w3 ⟨rfl, rfl⟩))
        refine bodyPost_ret (v := .tuple #[.agg #[.slice none 0 0, .slice none 0 0], .int .i64 9]) (by simp [results, Tryz.results101, go_sem, x4, x5, x8]) rfl ⟨_, _, by rw [HFF.out], ?_, ?_⟩
        · rw [HFF.out]; exact FreshRel.nil _ _ _ _
        · exact (((HW.out HB1.out).setCell (by simp <;> omega) _).setCell (by simp <;> omega) _).alloc (by simp <;> omega) _
      · rw [(colF_of hcol').1, (colF_of hcol').2] at CO'
        have HFF : Hid (F = madeF (colsT C n C' n') (n + n') (joN R m R' m' (joP C n x) (joP C' n' y))) := HUF.out.trans (if_neg (fun h => by rcases h with h | h <;> omega))
        have e1 : joP C n x = p := by unfold joP; rw [hcol]; simp
        have e2 : joP C' n' y = p' := by unfold joP; rw [hcol']; simp
        rw [e1, e2] at HFF ⊢
        clear hcol hcol' HUF e1 e2
        have hpi' : (p' : Int) < (n' : Int) := by omega
        have hmf : ∀ (fn : Fn) (first cap : Array Value) (w : World), (Instr.makeFunc fn first cap).run Tryz.prog w = .ok (.func fn first cap) w := fun _ _ _ _ => rfl
        have hmm := @run_makeMap Tryz.prog
        go_enter Tryz.func101, Tryz.ntmps101
        go_upto_region 11 with (first
          | (go_at_call 137; refine (C1.out _ _ _).mono ?_; rintro e w1 ⟨rfl, hb1⟩; have HB1 : Hid (Below (w.heap.size + 3) (((w.alloc (.cells #[.slice ca n ccap, .slice qa m qcap] 40)).alloc (.cells #[.slice ca' n' ccap', .slice qa' m' qcap'] 40)).alloc (.cells #[.slice none 0 0, .slice none 0 0] 40)) w1) := hb1; obtain ⟨x0, x1, x2, x3, x4, x5, x6, x7, x8⟩ := box3 hb1; have x9 : w.heap.size < w1.heap.size := (by omega); have x10 : w.heap.size + 1 < w1.heap.size := (by omega); clear hb1)
          | (go_at_call_has 122 (Value.slice ca n ccap); refine (CO.out _ (HW.out HB1.out)).mono ?_; rintro e w2 ⟨rfl, rfl⟩)
          | (go_at_call_has 122 (Value.slice ca' n' ccap'); refine (CO'.out _ ((HW.out HB1.out).alloc (by omega) _)).mono ?_; rintro e w3 ⟨rfl, rfl⟩))
        obtain ⟨s0, s1, s2, s3, s4⟩ := jmade w2 p
        have HX : Hid (w.heap.size + 1 + 1 < w2.heap.size) := x8
        have HJ0 : Hid (JMap (((w2.alloc (.cells #[.int .i64 (p : Int)] 3)).alloc (.map #[] 0)).alloc (.cells #[.map (some (w2.heap.size + 1))] 156)) (w2.heap.size + 1) (w2.heap.size + 3) (fun _ => [])) := s0
        have HS3 : Hid ((World.heap (((w2.alloc (.cells #[.int .i64 (p : Int)] 3)).alloc (.map #[] 0)).alloc (.cells #[.map (some (w2.heap.size + 1))] 156))).size = w2.heap.size + 3) := s3
        have HS4 : Hid (Below w2.heap.size w2 (((w2.alloc (.cells #[.int .i64 (p : Int)] 3)).alloc (.map #[] 0)).alloc (.cells #[.map (some (w2.heap.size + 1))] 156))) := s4
        have z0 : World.cell? (((w2.alloc (.cells #[.int .i64 (p : Int)] 3)).alloc (.map #[] 0)).alloc (.cells #[.map (some (w2.heap.size + 1))] 156)) ⟨w.heap.size, 0, none⟩ = some (.slice ca n ccap) := (s4.cell (p := ⟨w.heap.size, 0, none⟩) x9).trans x0
        have z1 : World.cell? (((w2.alloc (.cells #[.int .i64 (p : Int)] 3)).alloc (.map #[] 0)).alloc (.cells #[.map (some (w2.heap.size + 1))] 156)) ⟨w.heap.size, 1, none⟩ = some (.slice qa m qcap) := (s4.cell (p := ⟨w.heap.size, 1, none⟩) x9).trans x1
        have z2 : World.cell? (((w2.alloc (.cells #[.int .i64 (p : Int)] 3)).alloc (.map #[] 0)).alloc (.cells #[.map (some (w2.heap.size + 1))] 156)) ⟨w.heap.size + 1, 0, none⟩ = some (.slice ca' n' ccap') := (s4.cell (p := ⟨w.heap.size + 1, 0, none⟩) x10).trans x2
        have z3 : World.cell? (((w2.alloc (.cells #[.int .i64 (p : Int)] 3)).alloc (.map #[] 0)).alloc (.cells #[.map (some (w2.heap.size + 1))] 156)) ⟨w.heap.size + 1, 1, none⟩ = some (.slice qa' m' qcap') := (s4.cell (p := ⟨w.heap.size + 1, 1, none⟩) x10).trans x3
        clear s0 s3 s4 x0 x1 x2 x3 x4 x5 x6 x7 x8 x9 x10 hmm
        generalize (((w2.alloc (.cells #[.int .i64 (p : Int)] 3)).alloc (.map #[] 0)).alloc (.cells #[.map (some (w2.heap.size + 1))] 156)) = w4 at *
        have HB4 : Hid (Below (w.heap.size + 3) (((w.alloc (.cells #[.slice ca n ccap, .slice qa m qcap] 40)).alloc (.cells #[.slice ca' n' ccap', .slice qa' m' qcap'] 40)).alloc (.cells #[.slice none 0 0, .slice none 0 0] 40)) w4) := HB1.out.trans (HS4.out.mono (by have := HX.out; omega))
        go_wp2
        go_loopw [50] (fun i wr => ∃ t : Nat, t ≤ m' ∧ i = .int .i64 t ∧ ButOne w4 wr (w2.heap.size + 1) ∧ JMap wr (w2.heap.size + 1) (w2.heap.size + 3) (valsV rv (jI R' p') t)) (fun i _ => m' - (intOf i).toNat)
        case atStart => exact ⟨0, Nat.zero_le _, rfl, ButOne.refl _ _, HJ0.out⟩
        case round =>
          obtain ⟨t, ht, rfl, hbo, hjm⟩ := hrel
          have HBO : Hid (ButOne w4 wr (w2.heap.size + 1)) := hbo
          have HJ : Hid (JMap wr (w2.heap.size + 1) (w2.heap.size + 3) (valsV rv (jI R' p') t)) := hjm
          have hx := HX.out
          have hs3 := HS3.out
          have hz : w4.heap.size ≤ wr.heap.size := hbo.1
          have HBW : Hid (Below w.heap.size w wr) := (HW.out HB4.out).trans ((hbo.below (B := w.heap.size) (by omega) (by omega)))
          have u0 : wr.cell? ⟨w.heap.size, 0, none⟩ = some (.slice ca n ccap) := (hbo.cell (p := ⟨w.heap.size, 0, none⟩) (by show w.heap.size < w4.heap.size; omega) (by show w.heap.size ≠ _; omega)).trans z0
          have u1 : wr.cell? ⟨w.heap.size, 1, none⟩ = some (.slice qa m qcap) := (hbo.cell (p := ⟨w.heap.size, 1, none⟩) (by show w.heap.size < w4.heap.size; omega) (by show w.heap.size ≠ _; omega)).trans z1
          have u2 : wr.cell? ⟨w.heap.size + 1, 0, none⟩ = some (.slice ca' n' ccap') := (hbo.cell (p := ⟨w.heap.size + 1, 0, none⟩) (by show w.heap.size + 1 < w4.heap.size; omega) (by show w.heap.size + 1 ≠ _; omega)).trans z2
          have u3 : wr.cell? ⟨w.heap.size + 1, 1, none⟩ = some (.slice qa' m' qcap') := (hbo.cell (p := ⟨w.heap.size + 1, 1, none⟩) (by show w.heap.size + 1 < w4.heap.size; omega) (by show w.heap.size + 1 ≠ _; omega)).trans z3
          have u4 : wr.cell? ⟨w2.heap.size, 0, none⟩ = some (.int .i64 (p : Int)) := (hbo.cell (p := ⟨w2.heap.size, 0, none⟩) (by show w2.heap.size < w4.heap.size; omega) (by show w2.heap.size ≠ _; omega)).trans s1
          have u5 : wr.cell? ⟨w2.heap.size + 1 + 1, 0, none⟩ = some (.map (some (w2.heap.size + 1))) := (hbo.cell (p := ⟨w2.heap.size + 1 + 1, 0, none⟩) (by show w2.heap.size + 1 + 1 < w4.heap.size; omega) (by show w2.heap.size + 1 + 1 ≠ _; omega)).trans s2
          clear hbo hjm z0 z1 z2 z3
          by_cases htm : t < m'
          · obtain ⟨b, off, rfl, hb0, hall⟩ := HRV.out t htm
            obtain ⟨e1, hu⟩ := hall wr HBW.out
            clear hall
            have hti : (t : Int) < (m' : Int) := by omega
            rw [HLEN'.out t htm] at hu
            obtain ⟨ua, ucap, hrt, k1, k2, _, k3⟩ := hu
            obtain ⟨ub, uo, rfl, hub, k4⟩ := k3 (by omega)
            obtain ⟨e2, e3, e4⟩ := k4 p' hp'
            rw [hrt] at e1
            have HRT : Hid (rv t = .slice (some ⟨ub, uo, none⟩) n' ucap) := hrt
            have hnn : n' ≤ 9223372036854775807 := by omega
            have hbz : b < wr.heap.size := by omega
            have hgm : w2.heap.size + 1 + 1 < wr.heap.size := by omega
            have hj := HJ.out.keep (w' := (wr.alloc (.cells #[.slice (some ⟨ub, uo, none⟩) n' ucap] 94)).drew) (((Below.refl wr.heap.size wr).alloc (Nat.le_refl _) _).drew.block _ (by omega)) (fun b _ hb => ((Below.refl wr.heap.size wr).alloc (Nat.le_refl _) _).drew.block b hb)
            obtain ⟨v, stamp, w5, hent0, how, hTu, hback⟩ := hj.entry (HFIT'.out t htm p' hp')
            have hent : (Instr.mapEntry 156 (.map (some (w2.heap.size + 1))) (.agg #[.int .i64 ((R' t).at_ p').kind, .int .i64 ((R' t).at_ p').n, .string ((R' t).at_ p').s])).run Tryz.prog ((wr.alloc (.cells #[.slice (some ⟨ub, uo, none⟩) n' ucap] 94)).drew) = .ok (.tuple #[v, .int .i64 stamp]) w5 := hent0
            obtain ⟨va, vc, rfl⟩ := own_shape how
            have hlen : (valsV rv (jI R' p') t ((R' t).at_ p')).length ≤ t := by rw [valsV_len]; exact keptN_le _ _
            have HOW : Hid (w5.ownsRow (w2.heap.size + 3) 94 1 (.slice va (valsV rv (jI R' p') t ((R' t).at_ p')).length vc) (valsV rv (jI R' p') t ((R' t).at_ p')).length (valsV rv (jI R' p') t ((R' t).at_ p'))) := how
            have HTU : Hid (Turned ((wr.alloc (.cells #[.slice (some ⟨ub, uo, none⟩) n' ucap] 94)).drew) w5 (w2.heap.size + 1)) := hTu
            have HBACK := Hid.out (p := Hid (∀ (w2' : World) (v' u : Value), _)) hback
            have hz5 : w5.heap.size = wr.heap.size + 1 := hTu.1.trans (by simp)
            have c5 : w5.cell? ⟨wr.heap.size, 0, none⟩ = some (.slice (some ⟨ub, uo, none⟩) n' ucap) := (World.cell?_of_block (a := ⟨wr.heap.size, 0, none⟩) (hTu.2.1 wr.heap.size (by omega))).trans (one_new wr _ _)
            have c6 : w5.cell? ⟨w2.heap.size + 1 + 1, 0, none⟩ = some (.map (some (w2.heap.size + 1))) := (World.cell?_of_block (a := ⟨w2.heap.size + 1 + 1, 0, none⟩) (hTu.2.1 (w2.heap.size + 1 + 1) (by omega))).trans ((((Below.refl wr.heap.size wr).alloc (Nat.le_refl _) _).drew.cell (p := ⟨w2.heap.size + 1 + 1, 0, none⟩) (by show w2.heap.size + 1 + 1 < wr.heap.size; omega)).trans u5)
            have HVS : Hid ((fun y => if itB y ((R' t).at_ p') = true then valsV rv (jI R' p') t ((R' t).at_ p') ++ [.slice (some ⟨ub, uo, none⟩) n' ucap] else valsV rv (jI R' p') t y) = valsV rv (jI R' p') (t + 1)) := by
              have h := valsV_succ rv (jI R' p') t
              rw [hrt] at h
              exact h
            clear hent0 how hTu hback hj k3 k4 hrt k1 k2
            generalize valsV rv (jI R' p') t ((R' t).at_ p') = us at *
            generalize ((R' t).at_ p').kind = xk at *
            generalize ((R' t).at_ p').n = xn at *
            generalize ((R' t).at_ p').s = xs at *
            go_upto_region 14 with fail
            go_region_law (first
              | (refine step_push_val rfl (.tmp 59) (.tmp 61) rfl (w2.heap.size + 3) (.slice va us.length vc) us (by first | rfl | simp [Act.eval, Act.put]) HOW.out (by omega) ⟨wr.heap.size, 0, none⟩ 1 (.slice (some ⟨ub, uo, none⟩) n' ucap) (by first | rfl | simp [Act.eval, Act.put]) c5 rfl (by omega) ?_; intro v6 w6 hown6 hg6 hat6; obtain ⟨w7, hst, hj7, hT7⟩ := HBACK w6 v6 (.slice (some ⟨ub, uo, none⟩) n' ucap) (hg6.block _ (by omega) (fun h => by have := (HOW.out.lt _ h.symm).1; omega)) hg6.size (fun b q1 q2 q3 => hg6.block b q2 (fun h => q3 h.symm)) hown6 (hat6.imp id (fun h => ⟨_, h, Nat.le_refl _⟩)); obtain ⟨va6, vc6, rfl⟩ := own_shape hown6; have HJ7 : Hid (JMap w7 (w2.heap.size + 1) (w2.heap.size + 3) _) := hj7; have HT7 : Hid (Turned w6 w7 (w2.heap.size + 1)) := hT7; have HG6 : Hid (w5.grownBy w6 (Value.slice va us.length vc).ownBlock) := hg6; clear hown6 hg6 hat6 hj7 hT7))
            all_goals
              go_wp2_with fail
              have HBO7 : Hid (ButOne w4 w7 (w2.heap.size + 1)) := by
                have hA : Below wr.heap.size wr ((wr.alloc (.cells #[.slice (some ⟨ub, uo, none⟩) n' ucap] 94)).drew) := ((Below.refl wr.heap.size wr).alloc (Nat.le_refl _) _).drew
                have t5 := HTU.out
                have t7 := HT7.out
                have g6 := HG6.out
                have b4 := HBO.out
                refine ⟨by rw [t7.1]; have := g6.size; omega, t7.2.2.1.trans (g6.os.trans (t5.2.2.1.trans (hA.os.trans b4.2.1))), t7.2.2.2.1.trans (g6.tape.trans (t5.2.2.2.1.trans (hA.tape.trans b4.2.2.1))), t7.2.2.2.2.trans (g6.output.trans (t5.2.2.2.2.trans (hA.output.trans b4.2.2.2.1))), fun c hc hne => ?_⟩
                rw [t7.2.1 c hne, g6.block c (by omega) (fun h => by have := (HOW.out.lt c h.symm).1; omega), t5.2.1 c hne, hA.block c (by omega)]
                exact b4.2.2.2.2 c hc hne
              go_roundw
              case rel => exact ⟨t + 1, by omega, by go_num, HBO7.out, by have h := HJ7.out; rw [HVS.out] at h; exact h⟩
              case measure => simp [intOf]; omega
          · have e : t = m' := by omega
            subst e
            have HV : Hid (∀ k : Nat, ∃ ap : Option Addr × Nat, k < m → wr.ownsRow (w2.heap.size + 3) 94 1 (.slice ap.1 (jpn R R' t p p' k) ap.2) (jpn R R' t p p' k) (valsV rv (jI R' p') t (jI R p k)) ∧ ∀ W : World, W.heap[w2.heap.size + 1]? = wr.heap[w2.heap.size + 1]? → (Instr.lookup 156 (.map (some (w2.heap.size + 1))) (itV (jI R p k)) false).run Tryz.prog W = .ok (.slice ap.1 (jpn R R' t p p' k) ap.2) W) := fun k => by
              by_cases hk : k < m
              · obtain ⟨v, h1, h2⟩ := HJ.out.look_all (HFIT.out k hk p hp)
                rw [valsV_len] at h1
                obtain ⟨va, vc, rfl⟩ := own_shape h1
                exact ⟨(va, vc), fun _ => ⟨h1, h2⟩⟩
              · exact ⟨(none, 0), fun h => absurd h hk⟩
            obtain ⟨ap, hap⟩ := Classical.axiomOfChoice HV.out
            have CP : Hid (Calls Tryz.prog 138 #[.agg #[.slice ca n ccap, .slice qa m qcap], .agg #[.slice ca' n' ccap', .slice qa' t qcap'], .func (.func 139) #[] #[.pointer (some ⟨w2.heap.size + 1 + 1, 0, none⟩), .pointer (some ⟨w2.heap.size, 0, none⟩)]] wr fun e w' => ∃ c1 q1, e = .returned (.tuple #[.agg #[c1, q1], .int .i64 (madeF (colsT C n C' n') (n + n') (joN R m R' t p p'))]) ∧ FreshRel wr w' c1 q1 (okN (madeF (colsT C n C' n') (n + n') (joN R m R' t p p')) (n + n')) (okN (madeF (colsT C n C' n') (n + n') (joN R m R' t p p')) (joN R m R' t p p')) (colsT C n C' n') (joR R m R' t p p') ∧ Below wr.heap.size wr w') :=
              pair_gen 139 #[.pointer (some ⟨w2.heap.size + 1 + 1, 0, none⟩), .pointer (some ⟨w2.heap.size, 0, none⟩)] (fun k => (ap k).1) (fun k => (ap k).2) (jpn R R' t p p') (jPR R R' t p p') (.slice ca n ccap) (.slice qa m qcap) (.slice ca' n' ccap') (.slice qa' t qcap') n m n' t C C' R wr
                (HC.out _ HBW.out) (HC'.out _ HBW.out) (HQR.out _ HBW.out) ⟨_, _, rfl⟩ HFT.out
                (fun k hk => rows_vals (hap k hk).1 (valsV_len _ _ _ _) (fun i hi => by
                  refine ⟨_, valsV_at hi, ?_⟩
                  obtain ⟨_, _, _, _, hall⟩ := HRV.out (keptAt (matchK (jI R' p') (jI R p k)) t i) (keptAt_lt (Nat.le_refl _) hi)
                  exact (hall wr HBW.out).2))
                (fun k hk i hi => by
                  show ((R k).len + (R' (keptAt (matchK (jI R' p') (jI R p k)) t i)).len) * 32 ≤ _
                  rw [HLEN.out k hk, HLEN'.out _ (keptAt_lt (Nat.le_refl _) hi)]
                  omega)
                (fun k => Nat.le_trans (keptN_le _ _) hm6') hm6 (fun _ _ => rfl)
                (fun k W u hk hW hu => by
                  rw [HLEN.out k hk] at hu
                  exact join1_is u n p w2.heap.size (w2.heap.size + 1 + 1) (w2.heap.size + 1) (R k).at_ _ W hu hp (by have := hW.size; omega) (by have := hW.size; omega) ((hW.cell (p := ⟨w2.heap.size, 0, none⟩) (by show w2.heap.size < wr.heap.size; omega)).trans u4) ((hW.cell (p := ⟨w2.heap.size + 1 + 1, 0, none⟩) (by show w2.heap.size + 1 + 1 < wr.heap.size; omega)).trans u5) (fun W' hW' => (hap k hk).2 W' (hW'.trans (hW.block _ (by omega)))))
            have HB4R : Hid (Below (w.heap.size + 3) (((w.alloc (.cells #[.slice ca n ccap, .slice qa m qcap] 40)).alloc (.cells #[.slice ca' n' ccap', .slice qa' t qcap'] 40)).alloc (.cells #[.slice none 0 0, .slice none 0 0] 40)) wr) := HB4.out.trans (HBO.out.below (by omega) (by omega))
            clear hap HV
            generalize madeF (colsT C n C' n') (n + n') (joN R m R' t p p') = G at *
            go_wp2_with (first | (go_at_call 138; refine CP.out.mono ?_; rintro e w7 ⟨c7, q7, rfl, hf7, hb7⟩; have HFR : Hid (FreshRel wr w7 c7 q7 (okN G (n + n')) (okN G (joN R m R' t p p')) (colsT C n C' n') (joR R m R' t p p')) := hf7; obtain ⟨⟨a3, k3, rfl, _⟩, ⟨b3, l3, rfl, _⟩⟩ := hf7 w7 (Nat.le_refl _) (fun _ _ _ => rfl); have HB7 : Hid (Below (w.heap.size + 3) (((w.alloc (.cells #[.slice ca n ccap, .slice qa m qcap] 40)).alloc (.cells #[.slice ca' n' ccap', .slice qa' t qcap'] 40)).alloc (.cells #[.slice none 0 0, .slice none 0 0] 40)) w7) := HB4R.out.trans (hb7.mono (by omega)); obtain ⟨x0, x1, x2, x3, x4, x5, x6, x7, x8⟩ := box3 HB7.out; clear hf7 hb7))
            refine bodyPost_ret (v := .tuple #[.agg #[.slice a3 (okN G (n + n')) k3, .slice b3 (okN G (joN R m R' t p p')) l3], .int .i64 G]) (by simp [results, Tryz.results101, go_sem, x4, x5]) rfl ⟨_, _, by rw [HFF.out], ?_, ((HW.out HB7.out).setCell (by simp <;> omega) _).setCell (by simp <;> omega) _⟩
            rw [HFF.out]
            exact fun W' hs hb => HFR.out W' (by simpa using hs) (fun b h1 h2 => by
              have hb1 := hb b (by omega) (by simpa using h2)
              rw [hb1, Below.heap_setCell _ _ _ _ (by simp; omega), Below.heap_setCell _ _ _ _ (by simp; omega)])
  · have HFF : Hid (joF C n R m C' n' R' m' x y = twoF (relF C n R m) (relF C' n' R' m')) := if_neg h0
    have HNZ : Hid (¬ twoF (relF C n R m) (relF C' n' R' m') = 0) := h0
    have h1 : (twoF (relF C n R m) (relF C' n' R' m') != 0) = true := by simpa using h0
    clear h0
    generalize joN R m R' m' (joP C n x) (joP C' n' y) = N1 at *
    generalize joR R m R' m' (joP C n x) (joP C' n' y) = U at *
    generalize joF C n R m C' n' R' m' x y = F at *
    generalize twoF (relF C n R m) (relF C' n' R' m') = G at *
    go_enter Tryz.func101, Tryz.ntmps101
    go_wp2_with (first
      | (go_at_call 137; refine (C1.out _ _ _).mono ?_; rintro e w1 ⟨rfl, hb1⟩; have HB1 : Hid (Below (w.heap.size + 3) (((w.alloc (.cells #[.slice ca n ccap, .slice qa m qcap] 40)).alloc (.cells #[.slice ca' n' ccap', .slice qa' m' qcap'] 40)).alloc (.cells #[.slice none 0 0, .slice none 0 0] 40)) w1) := hb1; obtain ⟨x0, x1, x2, x3, x4, x5, x6, x7, x8⟩ := box3 hb1; clear hb1))
    refine bodyPost_ret (v := .tuple #[.agg #[.slice none 0 0, .slice none 0 0], .int .i64 G]) (by simp [results, Tryz.results101, go_sem, x4, x5]) rfl ⟨_, _, by rw [HFF.out], ?_, (((HW.out HB1.out)).setCell (by simp; omega) _).setCell (by simp; omega) _⟩
    rw [HFF.out, okN, if_neg HNZ.out, okN, if_neg HNZ.out]; exact FreshRel.nil _ _ _ _
end Go.Proofs.YtkcejelmohameaaGreatDoor
