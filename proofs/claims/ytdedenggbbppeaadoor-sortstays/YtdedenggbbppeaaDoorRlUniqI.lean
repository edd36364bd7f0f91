/-
  CONTRACT of rel.Unique.
-/
import Derived.Test.YtdedenggbbppeaaDoorRlUniq1
import Derived.Test.YtdedenggbbppeaaDoorRlUniq
import Derived.Test.YtdedenggbbppeaaDoorRlKeep
set_option linter.unusedVariables false
namespace Go.Proofs.YtdedenggbbppeaaDoor
set_option maxRecDepth 100000
open Go.RowKit Go.WideShapes

theorem fit_may {x : It} (h : mayI x = true) (hs : x.s.size ≤ maxLen) : fitI x := by
  unfold mayI at h
  have hk : (1 ≤ x.kind ∧ x.kind ≤ 4) ∧ -1099511627776 ≤ x.n ∧ x.n ≤ 1099511627776 := by
    by_cases h1 : x.kind = 1
    · rw [if_pos h1] at h
      have := of_decide_eq_true h
      omega
    · rw [if_neg h1] at h
      by_cases h2 : x.kind = 2
      · rw [if_pos h2] at h
        have := of_decide_eq_true h
        omega
      · rw [if_neg h2] at h
        by_cases h3 : x.kind = 3
        · rw [if_pos h3] at h
          have := of_decide_eq_true h
          omega
        · rw [if_neg h3] at h
          by_cases h4 : x.kind = 4
          · rw [if_pos h4] at h
            have := of_decide_eq_true h
            omega
          · rw [if_neg h4] at h
            cases h
  exact ⟨WalkArith.wf_i64 (by omega), WalkArith.wf_i64 (by omega), hs⟩
/-- all items of a relation that may be can be keys -/
theorem fit_rel {C : Nat → ByteArray} {n : Nat} {R : Nat → Row} {m : Nat} (h : relF C n R m = 0) (hg : RowsFine m R) : ∀ i, i < m → ∀ t, t < n → fitI ((R i).at_ t) := by
  intro i hi t ht
  have h1 := (relF_zero h).2.2 i hi
  have h2 := row_len h i hi
  unfold rowE at h1
  rw [if_pos h2] at h1
  refine fit_may ?_ ((hg.2 i hi).2 t (by omega))
  cases e : allB (R i).at_ (R i).len
  · rw [e] at h1; exact absurd h1 (by decide)
  · unfold allB at e
    rw [List.all_eq_true] at e
    exact e t (List.mem_range.2 (by omega))
theorem fit_key {X : Nat → It} {P : Nat → Nat} {n k : Nat} (h : ∀ t, t < n → fitI (X t)) (hP : ∀ i, i < k → P i < n) : ∀ i, i < 8 → fitI (keyX X P k i) := by
  intro i _
  unfold keyX
  by_cases e : i < k
  · rw [if_pos e]; exact h _ (hP i e)
  · rw [if_neg e]; exact ⟨rfl, rfl, Nat.zero_le _⟩
theorem SetIs.congr {w : World} {b n : Nat} {T T' : Value → Prop} (h : SetIs w b n T) (e : ∀ v, T v ↔ T' v) : SetIs w b n T' := by
  obtain ⟨D, h1, h2⟩ := h
  exact ⟨D, h1, fun v l hk => (h2 v l hk).trans (e v)⟩
/-- items don't lie where a map does -/
theorem its_butone {w w' : World} {b k n : Nat} {T : Value → Prop} {u : Value} {X : Nat → It} (hs : SetIs w b k T) (h : ItsIs w u n X) (hb : ButOne w w' b) : ItsIs w' u n X := by
  obtain ⟨a, cap, h1, h2, h3, h4, h5⟩ := h
  refine ⟨a, cap, h1, h2, h3, h4, fun h0 => ?_⟩
  obtain ⟨c, off, k1, k2, k3⟩ := h5 h0
  have hne : c ≠ b := by
    rintro rfl
    obtain ⟨D, ⟨es, clock, q1, _⟩, _⟩ := hs
    have := (k3 0 h0).1
    rw [World.cell?] at this
    simp [q1] at this
  exact ⟨c, off, k1, Nat.lt_of_lt_of_le k2 hb.1, k3.block (hb.2.2.2.2 c k2 hne)⟩
theorem ButOne.refl (w : World) (b : Nat) : ButOne w w b := ⟨Nat.le_refl _, rfl, rfl, rfl, fun _ _ _ => rfl⟩
theorem ButOne.trans {a b c : World} {k : Nat} (h : ButOne a b k) (h' : ButOne b c k) : ButOne a c k :=
  ⟨Nat.le_trans h.1 h'.1, h'.2.1.trans h.2.1, h'.2.2.1.trans h.2.2.1, h'.2.2.2.1.trans h.2.2.2.1, fun x hx hne => (h'.2.2.2.2 x (Nat.lt_of_lt_of_le hx h.1) hne).trans (h.2.2.2.2 x hx hne)⟩
theorem ButOne.of {a b c : World} {k : Nat} (h : ButOne a b k) (h' : Below a.heap.size b c) : ButOne a c k :=
  ⟨Nat.le_trans h.1 h'.size, h'.os.trans h.2.1, h'.tape.trans h.2.2.1, h'.output.trans h.2.2.2.1, fun x hx hne => (h'.block x hx).trans (h.2.2.2.2 x hx hne)⟩
/-- what lies ahead of the map is as it was -/
theorem ButOne.below {a b : World} {k B : Nat} (h : ButOne a b k) (hk : B ≤ k) (hB : B ≤ a.heap.size) : Below B a b :=
  ⟨h.2.1, h.2.2.1, h.2.2.2.1, h.1, fun x hx => h.2.2.2.2 x (by omega) (by omega)⟩
theorem ButOne.cell {a b : World} {k : Nat} (h : ButOne a b k) {p : Addr} (h1 : p.block < a.heap.size) (h2 : p.block ≠ k) : b.cell? p = a.cell? p := World.cell?_of_block (h.2.2.2.2 _ h1 h2)
theorem uniF_bad {C : Nat → ByteArray} {n : Nat} {R : Nat → Row} {m : Nat} {O : Nat → ByteArray} {ko : Nat} (h : ¬ relF C n R m = 0) : uniF C n R m O ko = relF C n R m := if_neg h
theorem one_new (W : World) (v : Value) (T : TypeId) : (W.alloc (.cells #[v] T)).cell? ⟨W.heap.size, 0, none⟩ = some v := by simp
/-- a place for places, a map, and a place for it were made -/
theorem set_made (w2 : World) (pv : Value) : SetIs (((w2.alloc (.cells #[pv] 43)).alloc (.map #[] 0)).alloc (.cells #[.map (some (w2.heap.size + 1))] 50)) (w2.heap.size + 1) 0 (fun _ => False) ∧ World.cell? (((w2.alloc (.cells #[pv] 43)).alloc (.map #[] 0)).alloc (.cells #[.map (some (w2.heap.size + 1))] 50)) ⟨w2.heap.size, 0, none⟩ = some pv ∧ World.cell? (((w2.alloc (.cells #[pv] 43)).alloc (.map #[] 0)).alloc (.cells #[.map (some (w2.heap.size + 1))] 50)) ⟨w2.heap.size + 1 + 1, 0, none⟩ = some (.map (some (w2.heap.size + 1))) ∧ (World.heap (((w2.alloc (.cells #[pv] 43)).alloc (.map #[] 0)).alloc (.cells #[.map (some (w2.heap.size + 1))] 50))).size = w2.heap.size + 3 ∧ Below w2.heap.size w2 (((w2.alloc (.cells #[pv] 43)).alloc (.map #[] 0)).alloc (.cells #[.map (some (w2.heap.size + 1))] 50)) := by
  have hs := SetIs.made (w2.alloc (.cells #[pv] 43))
  rw [show (w2.alloc (.cells #[pv] 43)).heap.size = w2.heap.size + 1 by simp] at hs
  have a1 : (w2.alloc (.cells #[pv] 43)).cell? ⟨w2.heap.size, 0, none⟩ = some pv := by simp
  have h12 : Below (w2.heap.size + 1) (w2.alloc (.cells #[pv] 43)) (((w2.alloc (.cells #[pv] 43)).alloc (.map #[] 0)).alloc (.cells #[.map (some (w2.heap.size + 1))] 50)) := ((Below.refl _ _).alloc (by simp) _).alloc (by simp) _
  have a2 : (((w2.alloc (.cells #[pv] 43)).alloc (.map #[] 0)).alloc (.cells #[.map (some (w2.heap.size + 1))] 50)).cell? ⟨((w2.alloc (.cells #[pv] 43)).alloc (.map #[] 0)).heap.size, 0, none⟩ = some (.map (some (w2.heap.size + 1))) := one_new _ _ _
  rw [show ((w2.alloc (.cells #[pv] 43)).alloc (.map #[] 0)).heap.size = w2.heap.size + 1 + 1 by simp] at a2
  exact ⟨hs.keep (((Below.refl _ _).alloc (Nat.le_refl _) _).block (w2.heap.size + 1) (by simp)), (h12.cell (p := ⟨w2.heap.size, 0, none⟩) (Nat.lt_succ_self _)).trans a1, a2, by simp, (((Below.refl _ _).alloc (Nat.le_refl _) _).alloc (by simp) _).alloc (by simp <;> omega) _⟩
/-- the keys of the first rows -/
def keysT (R : Nat → Row) (P : Nat → Nat) (ko k : Nat) (v : Value) : Prop := ∃ i, i < k ∧ v = keyV (keyX (R i).at_ (dedP P ko) (keptN (firstB P) ko))
theorem keys_uni {R : Nat → Row} {P : Nat → Nat} {ko k : Nat} (h8 : keptN (firstB P) ko ≤ 8) : (¬ keysT R P ko k (keyV (keyX (R k).at_ (dedP P ko) (keptN (firstB P) ko)))) ↔ uniK R P ko k = true := by
  have hk : ∀ i, keyV (keyX (R k).at_ (dedP P ko) (keptN (firstB P) ko)) = keyV (keyX (R i).at_ (dedP P ko) (keptN (firstB P) ko)) ↔ sameB (pickX R P k) (pickX R P i) ko = true := fun i => by
    rw [sameB_iff]
    constructor
    · intro h
      refine (key_same (P := P) (Q := P) (fun s t _ _ => Iff.rfl) h8).1 ?_
      funext t
      by_cases ht : t < 8
      · exact keyV_inj h t ht
      · unfold keyX
        rw [if_neg (by omega), if_neg (by omega)]
    · intro h
      rw [(key_same (P := P) (Q := P) (fun s t _ _ => Iff.rfl) h8).2 h]
  constructor
  · intro h
    cases e : uniK R P ko k
    · obtain ⟨t, h1, h2⟩ := uniK_no e
      exact absurd ⟨t, h1, (hk t).2 h2⟩ h
    · rfl
  · rintro h ⟨i, h1, h2⟩
    have h3 := (hk i).1 h2
    rw [uniK_yes h i h1] at h3
    cases h3
end Go.Proofs.YtdedenggbbppeaaDoor
