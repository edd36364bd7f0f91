/-
  CONTRACT of rel.Unique.
-/
import Derived.Test.YtkcejelmohameaaGreatDoorRlCrossI
import Derived.Test.YtkcejelmohameaaGreatDoorRlCrossI
import Derived.Test.YtkcejelmohameaaGreatDoorRlKeep
set_option linter.unusedVariables false
namespace Go.Proofs.YtkcejelmohameaaGreatDoor
set_option maxRecDepth 100000
open Go.RowKit Go.WideShapes

theorem fit_mayQ {x : It} (h : mayI x = true) (hs : x.s.size ≤ maxLen) : fitIQ x := by
  unfold mayI at h
  have hk : (1 ≤ x.kind ∧ x.kind ≤ 4) ∧ -1099511627776 ≤ x.n ∧ x.n ≤ 1099511627776 := by
    by_cases h1 : x.kind = 1
    · rw [if_pos h1] at h
      have := of_decide_eq_true h
      omega
    · rw [if_neg h1] at h
      by_cases h2 : x.kind = 2
      · rw [if_pos h2] at h
        have := of_decide_eq_true h
        omega
      · rw [if_neg h2] at h
        by_cases h3 : x.kind = 3
        · rw [if_pos h3] at h
          have := of_decide_eq_true h
          omega
        · rw [if_neg h3] at h
          by_cases h4 : x.kind = 4
          · rw [if_pos h4] at h
            have := of_decide_eq_true h
            omega
          · rw [if_neg h4] at h
            cases h
  exact ⟨WalkArith.wf_i64 (by omega), WalkArith.wf_i64 (by omega), hs⟩
/-- all items of a relation that may be can be keys -/
theorem fit_relQ {C : Nat → ByteArray} {n : Nat} {R : Nat → Row} {m : Nat} (h : relF C n R m = 0) (hg : RowsFine m R) : ∀ i, i < m → ∀ t, t < n → fitIQ ((R i).at_ t) := by
  intro i hi t ht
  have h1 := (relF_zero h).2.2 i hi
  have h2 := row_len h i hi
  unfold rowE at h1
  rw [if_pos h2] at h1
  refine fit_mayQ ?_ ((hg.2 i hi).2 t (by omega))
  cases e : allB (R i).at_ (R i).len
  · rw [e] at h1; exact absurd h1 (by decide)
  · unfold allB at e
    rw [List.all_eq_true] at e
    exact e t (List.mem_range.2 (by omega))
theorem fit_key {X : Nat → It} {P : Nat → Nat} {n k : Nat} (h : ∀ t, t < n → fitIQ (X t)) (hP : ∀ i, i < k → P i < n) : ∀ i, i < 8 → fitIQ (keyX X P k i) := by
  intro i _
  unfold keyX
  by_cases e : i < k
  · rw [if_pos e]; exact h _ (hP i e)
  · rw [if_neg e]; exact ⟨rfl, rfl, Nat.zero_le _⟩
theorem SetIs.congr {w : World} {b n : Nat} {T T' : Value → Prop} (h : SetIs w b n T) (e : ∀ v, T v ↔ T' v) : SetIs w b n T' := by
  obtain ⟨D, h1, h2⟩ := h
  exact ⟨D, h1, fun v l hk => (h2 v l hk).trans (e v)⟩
/-- items don't lie where a map does -/
theorem its_butone {w w' : World} {b k n : Nat} {T : Value → Prop} {u : Value} {X : Nat → It} (hs : SetIs w b k T) (h : ItsIs w u n X) (hb : ButOneQ w w' b) : ItsIs w' u n X := by
  obtain ⟨a, cap, h1, h2, h3, h4, h5⟩ := h
  refine ⟨a, cap, h1, h2, h3, h4, fun h0 => ?_⟩
  obtain ⟨c, off, k1, k2, k3⟩ := h5 h0
  have hne : c ≠ b := by
    rintro rfl
    obtain ⟨D, ⟨es, clock, q1, _⟩, _⟩ := hs
    have := (k3 0 h0).1
    rw [World.cell?] at this
    simp [q1] at this
  exact ⟨c, off, k1, Nat.lt_of_lt_of_le k2 hb.1, k3.block (hb.2.2.2.2 c k2 hne)⟩
theorem ButOneQ.refl (w : World) (b : Nat) : ButOneQ w w b := ⟨Nat.le_refl _, rfl, rfl, rfl, fun _ _ _ => rfl⟩
theorem ButOneQ.trans {a b c : World} {k : Nat} (h : ButOneQ a b k) (h' : ButOneQ b c k) : ButOneQ a c k :=
  ⟨Nat.le_trans h.1 h'.1, h'.2.1.trans h.2.1, h'.2.2.1.trans h.2.2.1, h'.2.2.2.1.trans h.2.2.2.1, fun x hx hne => (h'.2.2.2.2 x (Nat.lt_of_lt_of_le hx h.1) hne).trans (h.2.2.2.2 x hx hne)⟩
theorem ButOneQ.of {a b c : World} {k : Nat} (h : ButOneQ a b k) (h' : Below a.heap.size b c) : ButOneQ a c k :=
  ⟨Nat.le_trans h.1 h'.size, h'.os.trans h.2.1, h'.tape.trans h.2.2.1, h'.output.trans h.2.2.2.1, fun x hx hne => (h'.block x hx).trans (h.2.2.2.2 x hx hne)⟩
/-- what lies ahead of the map is as it was -/
theorem ButOneQ.below {a b : World} {k B : Nat} (h : ButOneQ a b k) (hk : B ≤ k) (hB : B ≤ a.heap.size) : Below B a b :=
  ⟨h.2.1, h.2.2.1, h.2.2.2.1, h.1, fun x hx => h.2.2.2.2 x (by omega) (by omega)⟩
theorem ButOneQ.cell {a b : World} {k : Nat} (h : ButOneQ a b k) {p : Addr} (h1 : p.block < a.heap.size) (h2 : p.block ≠ k) : b.cell? p = a.cell? p := World.cell?_of_block (h.2.2.2.2 _ h1 h2)
theorem uniF_bad {C : Nat → ByteArray} {n : Nat} {R : Nat → Row} {m : Nat} {O : Nat → ByteArray} {ko : Nat} (h : ¬ relF C n R m = 0) : uniF C n R m O ko = relF C n R m := if_neg h
theorem one_newQ (W : World) (v : Value) (T : TypeId) : (W.alloc (.cells #[v] T)).cell? ⟨W.heap.size, 0, none⟩ = some v := by simp
/-- a place for places, a map, and a place for it were made -/
theorem set_made (w2 : World) (pv : Value) : SetIs (((w2.alloc (.cells #[pv] 34)).alloc (.map #[] 0)).alloc (.cells #[.map (some (w2.heap.size + 1))] 162)) (w2.heap.size + 1) 0 (fun _ => False) ∧ World.cell? (((w2.alloc (.cells #[pv] 34)).alloc (.map #[] 0)).alloc (.cells #[.map (some (w2.heap.size + 1))] 162)) ⟨w2.heap.size, 0, none⟩ = some pv ∧ World.cell? (((w2.alloc (.cells #[pv] 34)).alloc (.map #[] 0)).alloc (.cells #[.map (some (w2.heap.size + 1))] 162)) ⟨w2.heap.size + 1 + 1, 0, none⟩ = some (.map (some (w2.heap.size + 1))) ∧ (World.heap (((w2.alloc (.cells #[pv] 34)).alloc (.map #[] 0)).alloc (.cells #[.map (some (w2.heap.size + 1))] 162))).size = w2.heap.size + 3 ∧ Below w2.heap.size w2 (((w2.alloc (.cells #[pv] 34)).alloc (.map #[] 0)).alloc (.cells #[.map (some (w2.heap.size + 1))] 162)) := by
  have hs := SetIs.made (w2.alloc (.cells #[pv] 34))
  rw [show (w2.alloc (.cells #[pv] 34)).heap.size = w2.heap.size + 1 by simp] at hs
  have a1 : (w2.alloc (.cells #[pv] 34)).cell? ⟨w2.heap.size, 0, none⟩ = some pv := by simp
  have h12 : Below (w2.heap.size + 1) (w2.alloc (.cells #[pv] 34)) (((w2.alloc (.cells #[pv] 34)).alloc (.map #[] 0)).alloc (.cells #[.map (some (w2.heap.size + 1))] 162)) := ((Below.refl _ _).alloc (by simp) _).alloc (by simp) _
  have a2 : (((w2.alloc (.cells #[pv] 34)).alloc (.map #[] 0)).alloc (.cells #[.map (some (w2.heap.size + 1))] 162)).cell? ⟨((w2.alloc (.cells #[pv] 34)).alloc (.map #[] 0)).heap.size, 0, none⟩ = some (.map (some (w2.heap.size + 1))) := one_newQ _ _ _
  rw [show ((w2.alloc (.cells #[pv] 34)).alloc (.map #[] 0)).heap.size = w2.heap.size + 1 + 1 by simp] at a2
  exact ⟨hs.keep (((Below.refl _ _).alloc (Nat.le_refl _) _).block (w2.heap.size + 1) (by simp)), (h12.cell (p := ⟨w2.heap.size, 0, none⟩) (Nat.lt_succ_self _)).trans a1, a2, by simp, (((Below.refl _ _).alloc (Nat.le_refl _) _).alloc (by simp) _).alloc (by simp <;> omega) _⟩
/-- the keys of the first rows -/
def keysT (R : Nat → Row) (P : Nat → Nat) (ko k : Nat) (v : Value) : Prop := ∃ i, i < k ∧ v = keyV (keyX (R i).at_ (dedP P ko) (keptN (firstB P) ko))
theorem keys_uni {R : Nat → Row} {P : Nat → Nat} {ko k : Nat} (h8 : keptN (firstB P) ko ≤ 8) : (¬ keysT R P ko k (keyV (keyX (R k).at_ (dedP P ko) (keptN (firstB P) ko)))) ↔ uniK R P ko k = true := by
  have hk : ∀ i, keyV (keyX (R k).at_ (dedP P ko) (keptN (firstB P) ko)) = keyV (keyX (R i).at_ (dedP P ko) (keptN (firstB P) ko)) ↔ sameB (pickX R P k) (pickX R P i) ko = true := fun i => by
    rw [sameB_iff]
    constructor
    · intro h
      refine (key_same (P := P) (Q := P) (fun s t _ _ => Iff.rfl) h8).1 ?_
      funext t
      by_cases ht : t < 8
      · exact keyV_inj h t ht
      · unfold keyX
        rw [if_neg (by omega), if_neg (by omega)]
    · intro h
      rw [(key_same (P := P) (Q := P) (fun s t _ _ => Iff.rfl) h8).2 h]
  constructor
  · intro h
    cases e : uniK R P ko k
    · obtain ⟨t, h1, h2⟩ := uniK_no e
      exact absurd ⟨t, h1, (hk t).2 h2⟩ h
    · rfl
  · rintro h ⟨i, h1, h2⟩
    have h3 := (hk i).1 h2
    rw [uniK_yes h i h1] at h3
    cases h3
set_option maxHeartbeats 6400000 in
theorem unique_is (c q l : Value) (n m ko : Nat) (C O : Nat → ByteArray) (R : Nat → Row) (w : World) (hc : StrsIs w c n C) (hq : RowsIs w q m R) (hf : StrsFine n C) (hg : RowsFine m R) (hl : StrsIs w l ko O) (hfl : StrsFine ko O) (hT : Tabs w) :
    Calls Tryz.prog 105 #[.agg #[c, q], l] w fun e w' => ∃ c1 q1, e = .returned (.tuple #[.agg #[c1, q1], .int .i64 (uniF C n R m O ko)]) ∧ FreshRel w w' c1 q1 (okN (uniF C n R m O ko) n) (okN (uniF C n R m O ko) (keptN (uniK R (prP C n O) ko) m)) C (keptR (uniK R (prP C n O) ko) m R) ∧ Below w.heap.size w w' := by
  have HW : Hid (∀ {W : World} {o o' : Obj}, Below (w.heap.size + 2) ((w.alloc o).alloc o') W → Below w.heap.size w W) := fun h => (below_two _ _).trans (h.mono (by omega))
  have C1 : Hid (∀ o o', Calls Tryz.prog 93 #[.agg #[c, q]] ((w.alloc o).alloc o') fun e w' => e = .returned (.int .i64 (relF C n R m)) ∧ Below (w.heap.size + 2) ((w.alloc o).alloc o') w') := fun o o' => by
    have h := relCheck_is c q n m C R _ (hc.below (below_two o o')) (hq.below (below_two o o')) hf hg (Utf8Tabs_below hT (below_two o o'))
    rwa [show ((w.alloc o).alloc o').heap.size = w.heap.size + 2 by simp] at h
  have CY : Hid ((∀ i, i < ko → colI C n (O i) = (prP C n O i : Int)) → ∀ W, Below w.heap.size w W → Calls Tryz.prog 143 #[c, l] W fun e w' => ∃ v, e = .returned (.tuple #[v, .int .i64 0]) ∧ IntsIs w' v (keptN (firstB (prP C n O)) ko) (dedP (prP C n O) ko) ∧ (∃ a' c', v = .slice a' (keptN (firstB (prP C n O)) ko) c') ∧ Below W.heap.size W w') := fun hP W hW => columns_yes c l n ko C O (prP C n O) W (hc.below hW) (hl.below hW) hP hfl.1
  have CN : Hid (∀ t, t < ko → (∀ i, i < t → colI C n (O i) = (prP C n O i : Int)) → colI C n (O t) = -1 → ∀ W, Below w.heap.size w W → Calls Tryz.prog 143 #[c, l] W fun e w' => e = .returned (.tuple #[.slice none 0 0, .int .i64 9]) ∧ Below W.heap.size W w') := fun t ht hP hN W hW => columns_no c l n ko C O (prP C n O) W (hc.below hW) (hl.below hW) t ht hP hN hfl.1
  have HC : Hid (∀ W, Below w.heap.size w W → StrsIs W c n C) := fun W hW => hc.below hW
  have HQR : Hid (∀ W, Below w.heap.size w W → RowsIs W q m R) := fun W hW => hq.below hW
  have HFN : Hid (n * 16 ≤ 140737488351232) := hf.1
  have HG : Hid (∀ i, i < m → (R i).len * 32 ≤ 140737488351232) := fun i hi => (hg.2 i hi).1
  have HGF : Hid (RowsFine m R) := hg
  obtain ⟨qa, qcap, rfl, _⟩ := hq
  obtain ⟨ca, ccap, rfl, _⟩ := hc
  obtain ⟨la, lcap, rfl, _⟩ := hl
  clear hf hg hT hfl
  by_cases h0 : relF C n R m = 0
  · have hm6 : m ≤ 1000000 := (relF_zero h0).2.1
    have hn8 : n ≤ 8 := colsF_le (relF_zero h0).1
    have HLEN : Hid (∀ i, i < m → (R i).len = n) := row_len h0
    have HFIT : Hid (∀ i, i < m → ∀ t, t < n → fitIQ ((R i).at_ t)) := fit_relQ h0 HGF.out
    have HUF : Hid (uniF C n R m O ko = if foundB C n O ko = true then 0 else 9) := if_pos h0
    rw [h0] at C1
    clear h0
    generalize uniF C n R m O ko = F at *
    cases hfo : foundB C n O ko
    · have HFF : Hid (F = 9) := HUF.out.trans (if_neg (fun h => by rw [hfo] at h; exact absurd h (by decide)))
      obtain ⟨t, t1, t2, t3⟩ := found_no hfo
      have CC : Hid (∀ W, Below w.heap.size w W → Calls Tryz.prog 143 #[.slice ca n ccap, .slice la ko lcap] W fun e w' => e = .returned (.tuple #[.slice none 0 0, .int .i64 9]) ∧ Below W.heap.size W w') := CN.out t t1 t3 t2
      clear t1 t2 t3 CY CN hfo HUF
      go_enter Tryz.func105, Tryz.ntmps105
      go_wp2_with (first
        | (go_at_call 93; refine (C1.out _ _).mono ?_; rintro e w1 ⟨rfl, hb1⟩; have HB1 : Hid (Below (w.heap.size + 2) ((w.alloc (.cells #[.slice ca n ccap, .slice qa m qcap] 40)).alloc (.cells #[.slice none 0 0, .slice none 0 0] 40)) w1) := hb1; obtain ⟨x0, x1, x2, x3, x4, x5, x6⟩ := box2r hb1; clear hb1)
        | (go_at_call 143; refine (CC.out _ (HW.out HB1.out)).mono ?_; rintro e w2 ⟨rfl, hb2⟩; have HB2 : Hid (Below (w.heap.size + 2) ((w.alloc (.cells #[.slice ca n ccap, .slice qa m qcap] 40)).alloc (.cells #[.slice none 0 0, .slice none 0 0] 40)) w2) := HB1.out.trans (hb2.mono (by omega)); clear x0 x1 x2 x3 x4 x5 x6; obtain ⟨x0, x1, x2, x3, x4, x5, x6⟩ := box2r HB2.out; have x7 : w.heap.size < w2.heap.size := Nat.lt_of_succ_lt x6; clear hb2))
      refine bodyPost_ret (v := .tuple #[.agg #[.slice none 0 0, .slice none 0 0], .int .i64 9]) (by simp [results, Tryz.results105, go_sem, x2, x3, x6]) rfl ⟨_, _, by rw [HFF.out], ?_, ?_⟩
      · rw [HFF.out]; exact FreshRel.nil _ _ _ _
      · exact (((HW.out HB2.out).setCell (by simp <;> omega) _).setCell (by simp <;> omega) _).alloc (by simp <;> omega) _
    · have CC : Hid (∀ W, Below w.heap.size w W → Calls Tryz.prog 143 #[.slice ca n ccap, .slice la ko lcap] W fun e w' => ∃ v, e = .returned (.tuple #[v, .int .i64 0]) ∧ IntsIs w' v (keptN (firstB (prP C n O)) ko) (dedP (prP C n O) ko) ∧ (∃ a' c', v = .slice a' (keptN (firstB (prP C n O)) ko) c') ∧ Below W.heap.size W w') := CY.out (fun i hi => (found_yes hfo i hi).1)
      have HPN : Hid (∀ i, i < ko → prP C n O i < n) := fun i hi => (found_yes hfo i hi).2
      have HF0 : Hid (F = 0) := HUF.out.trans (if_pos hfo)
      clear CY CN hfo HUF
      generalize prP C n O = P at *
      have h8 : keptN (firstB P) ko ≤ 8 := Nat.le_trans (ded_le HPN.out) hn8
      have HPD : Hid (∀ i, i < keptN (firstB P) ko → dedP P ko i < n) := fun i hi => HPN.out _ (keptAt_mem (m := ko) (Nat.le_refl _) hi).1
      have hmf : ∀ (fn : Fn) (first cap : Array Value) (w : World), (Instr.makeFunc fn first cap).run Tryz.prog w = .ok (.func fn first cap) w := fun _ _ _ _ => rfl
      have hmm := @run_makeMap Tryz.prog
      go_enter Tryz.func105, Tryz.ntmps105
      go_upto_region 8 with (first
        | (go_at_call 93; refine (C1.out _ _).mono ?_; rintro e w1 ⟨rfl, hb1⟩; have HB1 : Hid (Below (w.heap.size + 2) ((w.alloc (.cells #[.slice ca n ccap, .slice qa m qcap] 40)).alloc (.cells #[.slice none 0 0, .slice none 0 0] 40)) w1) := hb1; obtain ⟨x0, x1, x2, x3, x4, x5, x6⟩ := box2r hb1; clear hb1)
        | (go_at_call 143; refine (CC.out _ (HW.out HB1.out)).mono ?_; rintro e w2 ⟨v2, rfl, hi2, ⟨pa, pc, rfl⟩, hb2⟩; have HI2 : Hid (IntsIs w2 (.slice pa (keptN (firstB P) ko) pc) (keptN (firstB P) ko) (dedP P ko)) := hi2; have HB2 : Hid (Below (w.heap.size + 2) ((w.alloc (.cells #[.slice ca n ccap, .slice qa m qcap] 40)).alloc (.cells #[.slice none 0 0, .slice none 0 0] 40)) w2) := HB1.out.trans (hb2.mono (by omega)); clear x0 x1 x2 x3 x4 x5 x6; obtain ⟨x0, x1, x2, x3, x4, x5, x6⟩ := box2r HB2.out; have x7 : w.heap.size < w2.heap.size := Nat.lt_of_succ_lt x6; clear hb2 hi2))
      obtain ⟨s0, s1, s2, s3, s4⟩ := set_made w2 (.slice pa (keptN (firstB P) ko) pc)
      have HBW3 : Hid (Below w.heap.size w (((w2.alloc (.cells #[.slice pa (keptN (firstB P) ko) pc] 34)).alloc (.map #[] 0)).alloc (.cells #[.map (some (w2.heap.size + 1))] 162))) := (HW.out HB2.out).trans (s4.mono (by omega))
      have HX : Hid (w.heap.size + 1 < w2.heap.size) := x6
      have CK : Hid (Calls Tryz.prog 135 #[.agg #[.slice ca n ccap, .slice qa m qcap], .func (.func 146) #[] #[.pointer (some ⟨w2.heap.size, 0, none⟩), .pointer (some ⟨w2.heap.size + 1 + 1, 0, none⟩)]] (((w2.alloc (.cells #[.slice pa (keptN (firstB P) ko) pc] 34)).alloc (.map #[] 0)).alloc (.cells #[.map (some (w2.heap.size + 1))] 162)) fun e w' => ∃ c1 q1, e = .returned (.agg #[c1, q1]) ∧ FreshRel (((w2.alloc (.cells #[.slice pa (keptN (firstB P) ko) pc] 34)).alloc (.map #[] 0)).alloc (.cells #[.map (some (w2.heap.size + 1))] 162)) w' c1 q1 n (keptN (uniK R P ko) m) C (keptR (uniK R P ko) m R) ∧ (ButOneQ (((w2.alloc (.cells #[.slice pa (keptN (firstB P) ko) pc] 34)).alloc (.map #[] 0)).alloc (.cells #[.map (some (w2.heap.size + 1))] 162)) w' (w2.heap.size + 1) ∧ SetIs w' (w2.heap.size + 1) m (keysT R P ko m))) :=
        keep_gen 146 #[.pointer (some ⟨w2.heap.size, 0, none⟩), .pointer (some ⟨w2.heap.size + 1 + 1, 0, none⟩)] (fun k W => ButOneQ (((w2.alloc (.cells #[.slice pa (keptN (firstB P) ko) pc] 34)).alloc (.map #[] 0)).alloc (.cells #[.map (some (w2.heap.size + 1))] 162)) W (w2.heap.size + 1) ∧ SetIs W (w2.heap.size + 1) k (keysT R P ko k)) (uniK R P ko) (.slice ca n ccap) (.slice qa m qcap) n m C R (((w2.alloc (.cells #[.slice pa (keptN (firstB P) ko) pc] 34)).alloc (.map #[] 0)).alloc (.cells #[.map (some (w2.heap.size + 1))] 162))
          ⟨ButOneQ.refl _ _, s0.congr (fun v => ⟨fun h => h.elim, fun ⟨i, hi, _⟩ => absurd hi (by omega)⟩)⟩
          (fun k W W' hz h hb => ⟨h.1.of hb, h.2.keep (hb.block _ (by rw [s3]; omega))⟩)
          (HC.out _ HBW3.out) HFN.out ⟨_, _, rfl⟩
          (fun k W h => HQR.out W (HBW3.out.trans ((h.1.below (B := w.heap.size) (by have := HX.out; omega) (by rw [s3]; have := HX.out; omega)))))
          hm6 HG.out (fun _ _ => rfl)
          (fun k W u hk hz h hu => by
            rw [HLEN.out k hk] at hu
            have hx := HX.out
            have hp : IntsIs W (.slice pa (keptN (firstB P) ko) pc) (keptN (firstB P) ko) (dedP P ko) := HI2.out.below (s4.trans (h.1.below (by omega) (by rw [s3]; omega)))
            obtain ⟨l, hkey⟩ := keyV_key (keyX (R k).at_ (dedP P ko) (keptN (firstB P) ko)) (fit_key (HFIT.out k hk) HPD.out)
            refine (unique1_is u (.slice pa (keptN (firstB P) ko) pc) n (keptN (firstB P) ko) w2.heap.size (w2.heap.size + 1 + 1) (w2.heap.size + 1) k (R k).at_ (dedP P ko) (keysT R P ko k) W hu hp HPD.out h8 (by rw [s3] at hz; omega) (by rw [s3] at hz; omega) ((h.1.cell (p := ⟨w2.heap.size, 0, none⟩) (by rw [s3]; show w2.heap.size < _; omega) (by show w2.heap.size ≠ _; omega)).trans s1) ((h.1.cell (p := ⟨w2.heap.size + 1 + 1, 0, none⟩) (by rw [s3]; show w2.heap.size + 1 + 1 < _; omega) (by show w2.heap.size + 1 + 1 ≠ _; omega)).trans s2) h.2 (by omega) (by unfold maxLen; omega) l hkey).mono ?_
            rintro e w' ⟨r, rfl, hr, hs, hb⟩
            refine ⟨?_, ⟨h.1.trans ⟨hb.1, hb.2.1, hb.2.2.1, hb.2.2.2.1, hb.2.2.2.2⟩, hs.congr (fun v => ?_)⟩, ⟨hb.1, fun c hc1 hc2 => hb.2.2.2.2 c hc2 (by rw [s3] at hc1; omega)⟩, by rw [HLEN.out k hk]; exact its_butone h.2 hu hb⟩
            · have e2 : r = uniK R P ko k := by rw [Bool.eq_iff_iff, hr]; exact keys_uni h8
              rw [e2]
            · constructor
              · rintro (⟨i, h1, h2⟩ | h2)
                · exact ⟨i, by omega, h2⟩
                · exact ⟨k, by omega, h2⟩
              · rintro ⟨i, h1, h2⟩
                by_cases e3 : i = k
                · subst e3; exact .inr h2
                · exact .inl ⟨i, by omega, h2⟩)
      have HS3 : Hid ((World.heap (((w2.alloc (.cells #[.slice pa (keptN (firstB P) ko) pc] 34)).alloc (.map #[] 0)).alloc (.cells #[.map (some (w2.heap.size + 1))] 162))).size = w2.heap.size + 3) := s3
      have HS4 : Hid (Below w2.heap.size w2 (((w2.alloc (.cells #[.slice pa (keptN (firstB P) ko) pc] 34)).alloc (.map #[] 0)).alloc (.cells #[.map (some (w2.heap.size + 1))] 162))) := s4
      have z0 : World.cell? (((w2.alloc (.cells #[.slice pa (keptN (firstB P) ko) pc] 34)).alloc (.map #[] 0)).alloc (.cells #[.map (some (w2.heap.size + 1))] 162)) ⟨w.heap.size, 0, none⟩ = some (.slice ca n ccap) := (s4.cell (p := ⟨w.heap.size, 0, none⟩) x7).trans x0
      have z1 : World.cell? (((w2.alloc (.cells #[.slice pa (keptN (firstB P) ko) pc] 34)).alloc (.map #[] 0)).alloc (.cells #[.map (some (w2.heap.size + 1))] 162)) ⟨w.heap.size, 1, none⟩ = some (.slice qa m qcap) := (s4.cell (p := ⟨w.heap.size, 1, none⟩) x7).trans x1
      clear s0 s1 s2 s3 s4 x0 x1 x2 x3 x4 x5 x6 x7 HBW3
      generalize (((w2.alloc (.cells #[.slice pa (keptN (firstB P) ko) pc] 34)).alloc (.map #[] 0)).alloc (.cells #[.map (some (w2.heap.size + 1))] 162)) = w3 at *
      go_wp2_with (first | (go_at_call 135; refine CK.out.mono ?_; rintro e w7 ⟨c7, q7, rfl, hf7, hb7, _⟩; have HFR : Hid (FreshRel w3 w7 c7 q7 n (keptN (uniK R P ko) m) C (keptR (uniK R P ko) m R)) := hf7; obtain ⟨⟨a3, k3, rfl, _⟩, ⟨b3, l3, rfl, _⟩⟩ := hf7 w7 (Nat.le_refl _) (fun _ _ _ => rfl); have HB7 : Hid (Below (w.heap.size + 2) ((w.alloc (.cells #[.slice ca n ccap, .slice qa m qcap] 40)).alloc (.cells #[.slice none 0 0, .slice none 0 0] 40)) w7) := HB2.out.trans ((HS4.out.trans (hb7.below (by omega) (by rw [HS3.out]; omega))).mono (by have := HX.out; omega)); obtain ⟨x0, x1, x2, x3, x4, x5, x6⟩ := box2r HB7.out; clear hf7 hb7))
      refine bodyPost_ret (v := .tuple #[.agg #[.slice a3 n k3, .slice b3 (keptN (uniK R P ko) m) l3], .int .i64 0]) (by simp [results, Tryz.results105, go_sem, x2, x3]) rfl ⟨_, _, by rw [HF0.out], ?_, ((HW.out HB7.out).setCell (by simp <;> omega) _).setCell (by simp <;> omega) _⟩
      rw [HF0.out]
      have hx := HX.out
      have hs3 := HS3.out
      exact fun W' hs hb => HFR.out W' (by simpa using hs) (fun b h1 h2 => by
        rw [hs3] at h1
        have hb1 := hb b (by omega) (by simpa using h2)
        rw [hb1, Below.heap_setCell _ _ _ _ (by simp; omega), Below.heap_setCell _ _ _ _ (by simp; omega)])
  · have HFF : Hid (uniF C n R m O ko = relF C n R m) := uniF_bad h0
    have HNZ : Hid (¬ relF C n R m = 0) := h0
    have h1 : (relF C n R m != 0) = true := by simpa using h0
    clear h0
    generalize uniF C n R m O ko = F at *
    generalize relF C n R m = G at *
    go_enter Tryz.func105, Tryz.ntmps105
    go_wp2_with (first | (go_at_call 93; refine (C1.out _ _).mono ?_; rintro e w1 ⟨rfl, hb1⟩; have HB1 : Hid (Below (w.heap.size + 2) _ w1) := hb1; obtain ⟨x0, x1, x2, x3, x4, x5, x6⟩ := box2r hb1; clear hb1))
    refine bodyPost_ret (v := .tuple #[.agg #[.slice none 0 0, .slice none 0 0], .int .i64 G]) (by simp [results, Tryz.results105, go_sem, x2, x3]) rfl ⟨_, _, by rw [HFF.out], ?_, (((HW.out HB1.out)).setCell (by simp <;> omega) _).setCell (by simp <;> omega) _⟩
    rw [HFF.out, okN, if_neg HNZ.out, okN, if_neg HNZ.out]; exact FreshRel.nil _ _ _ _
end Go.Proofs.YtkcejelmohameaaGreatDoor
