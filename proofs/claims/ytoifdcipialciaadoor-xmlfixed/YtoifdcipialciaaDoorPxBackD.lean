/-
  WHAT IS SHOWN IS PARSED (plainly): the whole.
-/
import Derived.Test.YtoifdcipialciaaDoorPxBackC
set_option linter.unusedVariables false
namespace Go.Proofs.YtoifdcipialciaaDoor
set_option maxRecDepth 100000
open Go.RowKit

theorem bl_tag {c : UInt8} (h : c = 47 ∨ c = 62) : isBl c = false := by rcases h with rfl | rfl <;> decide
theorem name_first {X : List UInt8} (h : NameL X) : ∃ c R, X = c :: R ∧ isBl c = false ∧ ((62 : UInt8) == c) = false ∧ ((47 : UInt8) == c) = false ∧ ((33 : UInt8) == c) = false := by
  cases X with
  | nil => exact absurd rfl h.1
  | cons c R =>
    have h0 := h.2 0 (by simp)
    simp only [List.getElem_cons_zero] at h0
    have key : ∀ d : UInt8, nb (d.toNat : Int) (((0 : Nat) : Int) == 0) = false → ¬ c = d := by
      intro d hd e
      rw [e] at h0
      rw [hd] at h0
      cases h0
    have k32 := key 32 (by decide)
    have k10 := key 10 (by decide)
    have k9 := key 9 (by decide)
    have k62 := key 62 (by decide)
    have k47 := key 47 (by decide)
    have k33 := key 33 (by decide)
    refine ⟨c, R, rfl, ?_, ?_, ?_, ?_⟩
    · unfold isBl; simp [k32, k10, k9]
    · rw [beq_eq_false_iff_ne]; exact fun e => k62 e.symm
    · rw [beq_eq_false_iff_ne]; exact fun e => k47 e.symm
    · rw [beq_eq_false_iff_ne]; exact fun e => k33 e.symm
/-- within a tag -/
theorem tag_at {E : Nat → Ev} {n : Nat} (V : Val E n) (O : List ByteArray) (nm : ByteArray) : ∀ m k fuel (A : List UInt8), k + m = n → 0 < k → inTagB (E (k - 1)).kind = true → names E k = O ++ [nm] → m + 1 ≤ fuel →
    ∃ k' m' A', k' + m' = n ∧ k ≤ k' ∧ A ++ tailR E k m = A' ++ restC E k' m' ∧ Side E k' m' ∧ stF (tx (A ++ tailR E k m)) nm O fuel A.length (Ls E k) = (0, A'.length, Ls E k', names E k')
  | 0, k, fuel, A, hk, h0, ht, hn, hf => absurd (in_d V h0 (by omega) ht) (by omega)
  | m + 1, k, fuel, A, hk, h0, ht, hn, hf => by
    obtain ⟨f', rfl⟩ : ∃ f', fuel = f' + 1 := ⟨fuel - 1, by omega⟩
    have hkn : k < n := by omega
    rcases kinds V hkn with h | h | h | h | h
    case inr.inl =>
      -- an attribute
      have hX := nameL_of V hkn (.inr h)
      obtain ⟨X, hXe⟩ : ∃ X, X = (E k).name.data.toList := ⟨_, rfl⟩
      obtain ⟨v, hve⟩ : ∃ v, v = (E k).value.data.toList := ⟨_, rfl⟩
      have hb : body E k = 32 :: (X ++ [61, 34] ++ escL v ++ [34]) := by rw [hXe, hve]; exact body2 h
      rw [← hXe] at hX
      have eE : E k = ⟨2, tx X, tx v⟩ := ev_eq h (by rw [hXe, ba_tx]) (by rw [hve, ba_tx])
      have hg : gt E k = [] := gt_inner (.inl h)
      obtain ⟨T, hT⟩ : ∃ T, T = A ++ tailR E k (m + 1) := ⟨_, rfl⟩
      have t1 : T = A ++ [32] ++ (X ++ [61, 34] ++ escL v ++ [34]) ++ tailR E (k + 1) m := by
        rw [hT]; simp only [tailR]; rw [hg, hb]; simp
      obtain ⟨c, R, hc, q1, q2, q3, _⟩ := name_first hX
      have t2 : T = A ++ 32 :: c :: (R ++ [61, 34] ++ escL v ++ [34] ++ tailR E (k + 1) m) := by rw [t1, hc]; simp
      have t3 : T = (A ++ [32]) ++ c :: (R ++ [61, 34] ++ escL v ++ [34] ++ tailR E (k + 1) m) := by rw [t1, hc]; simp
      have hbl : blTo (tx T) A.length = (A ++ [32]).length := by rw [t2, bl_one _ _ _ q1]; simp
      have hlt : A.length < (A ++ [(32 : UInt8)]).length := by simp
      have h62 : hitB (tx T) (A ++ [32]).length ⟨#[62]⟩ = false := by rw [t3, hit_one]; exact q2
      have h47 : hitB (tx T) (A ++ [32]).length ⟨#[47]⟩ = false := by rw [t3, hit_one]; exact q3
      have hat : attrM (tx T) (A ++ [32]).length (Ls E k) O = (0, (A ++ [32]).length + (X ++ [61, 34] ++ escL v ++ [34]).length, Ls E k ++ [⟨2, tx X, tx v⟩], O) := by rw [t1]; exact attr_at hX v (A ++ [32]) (tailR E (k + 1) m) (Ls E k) O
      obtain ⟨A2, hA2⟩ : ∃ A2, A2 = A ++ [32] ++ (X ++ [61, 34] ++ escL v ++ [34]) := ⟨_, rfl⟩
      have t4 : T = A2 ++ tailR E (k + 1) m := by rw [t1, hA2]
      obtain ⟨k', m', A', i1, i2, i3, i4, i5⟩ := tag_at V O nm m (k + 1) f' A2 (by omega) (by omega) (by rw [show k + 1 - 1 = k from rfl, h]; decide) (by rw [names_keep (by omega) (by omega)]; exact hn) (by omega)
      rw [← t4] at i3 i5
      refine ⟨k', m', A', i1, by omega, by rw [← hT]; exact i3, i4, ?_⟩
      rw [← hT, stF, hbl]
      unfold stR
      rw [if_neg (by rw [h62]; decide), if_neg (by rw [h47]; decide), if_pos hlt, hat, if_pos rfl]
      rw [Ls_succ, eE, hA2] at i5
      rw [@List.length_append UInt8 (A ++ [32])] at i5
      exact i5
    case inr.inr.inr.inr =>
      -- the element's end
      have hb : body E k = [47, 62] := body5t h ht
      have hg : gt E k = [] := gt_inner (.inr h)
      have eE : E k = evEnd := ev_eq h (name_zero V hkn (by omega) (by omega)) (value_zero V hkn (.inr h))
      obtain ⟨T, hT⟩ : ∃ T, T = A ++ tailR E k (m + 1) := ⟨_, rfl⟩
      have t1 : T = A ++ 47 :: 62 :: tailR E (k + 1) m := by rw [hT]; simp only [tailR]; rw [hg, hb]; simp
      have t2 : T = A ++ [47] ++ [62] ++ tailR E (k + 1) m := by rw [t1]; simp
      have hbl : blTo (tx T) A.length = A.length := by rw [t1]; exact bl_none _ _ _ (by decide)
      have h62 : hitB (tx T) A.length ⟨#[62]⟩ = false := by rw [t1, hit_one]; rfl
      have h47 : hitB (tx T) A.length ⟨#[47]⟩ = true := by rw [t1, hit_one]; rfl
      have hx := ex_at [62] (A ++ [47]) (tailR E (k + 1) m)
      rw [← t2] at hx
      have htn : inTagB (E (k + 1 - 1)).kind = false := by rw [show k + 1 - 1 = k from rfl, h]; decide
      refine ⟨k + 1, m, A ++ [47] ++ [62], by omega, by omega, ?_, side_next V (by omega) htn, ?_⟩
      · rw [rest_tail htn, ← hT]; exact t2
      · rw [← hT, stF, hbl]
        unfold stR
        rw [if_neg (by rw [h62]; decide), if_pos h47]
        rw [show A.length + 1 = (A ++ [(47 : UInt8)]).length by simp]
        have e1 : exE (tx T) (A ++ [47]).length ⟨#[62]⟩ = 0 := hx.2
        have e2 : exTo (tx T) (A ++ [47]).length ⟨#[62]⟩ = (A ++ [47] ++ [62]).length := hx.1.trans List.length_append.symm
        rw [e1, e2, Ls_succ, eE, names_pop h, hn, List.dropLast_concat]
    all_goals
      -- the tag's end
      have hg : gt E k = [62] := gt_some h0 ht (by omega) (by omega)
      obtain ⟨T, hT⟩ : ∃ T, T = A ++ tailR E k (m + 1) := ⟨_, rfl⟩
      have t1 : T = A ++ 62 :: (body E k ++ tailR E (k + 1) m) := by rw [hT]; simp only [tailR]; rw [hg]; simp
      have hbl : blTo (tx T) A.length = A.length := by rw [t1]; exact bl_none _ _ _ (by decide)
      have h62 : hitB (tx T) A.length ⟨#[62]⟩ = true := by rw [t1, hit_one]; rfl
      refine ⟨k, m + 1, A ++ [62], hk, Nat.le_refl _, ?_, .inr ⟨by omega, fun e => by omega⟩, ?_⟩
      · rw [← hT, t1]; simp [restC]
      · rw [← hT, stF, hbl]
        unfold stR
        rw [if_pos h62, hn]
        simp
/-- a start, from its name on -/
theorem start_at {E : Nat → Ev} {n : Nat} (V : Val E n) {k m : Nat} (hk : k + (m + 1) = n) (h : (E k).kind = 1) (A : List UInt8) :
    ∃ k' m' A', k' + m' = n ∧ k < k' ∧ A ++ (E k).name.data.toList ++ tailR E (k + 1) m = A' ++ restC E k' m' ∧ Side E k' m' ∧ startM (tx (A ++ (E k).name.data.toList ++ tailR E (k + 1) m)) A.length (Ls E k) (names E k) = (0, A'.length, Ls E k', names E k') := by
  have hkn : k < n := by omega
  have hX := nameL_of V hkn (.inl h)
  obtain ⟨X, hXe⟩ : ∃ X, X = (E k).name.data.toList := ⟨_, rfl⟩
  rw [← hXe] at hX ⊢
  have ht : inTagB (E (k + 1 - 1)).kind = true := by rw [show k + 1 - 1 = k from rfl, h]; decide
  have hk1 := in_d V (k := k + 1) (by omega) (by omega) ht
  obtain ⟨m1, rfl⟩ : ∃ m1, m = m1 + 1 := ⟨m - 1, by omega⟩
  obtain ⟨c, R, hc, hcc⟩ := tail_tag V (k := k + 1) (m := m1) (by omega) (by omega) ht
  have a := nm_at hX A (tailR E (k + 1) (m1 + 1)) (fun y Y' e => by
    rw [hc] at e
    simp only [List.cons.injEq] at e
    rw [← e.1]
    exact nb_tag hcc)
  have eE : E k = evStart (tx X) := ev_eq h (by rw [hXe, ba_tx]) (value_zero V hkn (.inl h))
  have hl := tail_len V (m1 + 1) (k + 1) (by omega)
  obtain ⟨k', m', A', i1, i2, i3, i4, i5⟩ := tag_at V (names E k) (tx X) (m1 + 1) (k + 1) ((tx (A ++ X ++ tailR E (k + 1) (m1 + 1))).size + 1 - (A ++ X).length) (A ++ X) (by omega) (by omega) ht (by rw [names_push h, eE]; rfl) (by rw [tx_size, @List.length_append UInt8 (A ++ X)]; omega)
  refine ⟨k', m', A', i1, by omega, i3, i4, ?_⟩
  unfold startM
  rw [if_pos a.2.1, a.2.2, a.1, show A.length + X.length = (A ++ X).length from List.length_append.symm]
  rw [Ls_succ, eE] at i5
  exact i5
/-- from content on -/
theorem doc_at {E : Nat → Ev} {n : Nat} (V : Val E n) : ∀ (N m : Nat), m ≤ N → ∀ k fuel (A : List UInt8), k + m = n → 0 < k → Side E k m → m + 1 ≤ fuel →
    docF (tx (A ++ restC E k m)) fuel A.length (Ls E k) (names E k) = (0, (A ++ restC E k m).length, Ls E n, []) := by
  intro N
  induction N with
  | zero =>
    intro m hm k fuel A hk h0 hs hf
    obtain rfl : m = 0 := by omega
    obtain ⟨f', rfl⟩ : ∃ f', fuel = f' + 1 := ⟨fuel - 1, by omega⟩
    obtain rfl : k = n := by omega
    have hz : (names E k).length = 0 := by rw [names_len, V.dz]
    have hnil : names E k = [] := List.eq_nil_of_length_eq_zero hz
    rw [docF, if_pos hz, if_neg (by rw [tx_size]; simp [restC])]
    simp [restC, hnil]
  | succ N IH =>
    intro m hm k fuel A hk h0 hs hf
    obtain ⟨f', rfl⟩ : ∃ f', fuel = f' + 1 := ⟨fuel - 1, by omega⟩
    rcases Nat.eq_zero_or_pos m with hm0 | hm0
    · exact IH m (by omega) k (f' + 1) A hk h0 hs hf
    obtain ⟨m, rfl⟩ : ∃ m1, m = m1 + 1 := ⟨m - 1, by omega⟩
    have hkn : k < n := by omega
    have hd := V.d h0 hkn
    have hz : ¬ (names E k).length = 0 := by rw [names_len]; omega
    obtain ⟨s1, s2⟩ : ¬ (E k).kind = 2 ∧ ((E k).kind = 5 → inTagB (E (k - 1)).kind = false) := by
      rcases hs with hs | hs
      · omega
      · exact hs
    obtain ⟨T, hT⟩ : ∃ T, T = A ++ restC E k (m + 1) := ⟨_, rfl⟩
    rw [← hT]
    -- it is enough to know what the next piece tells
    have go : ∀ (A' : List UInt8) (k' m' : Nat), k' + m' = n → k < k' → T = A' ++ restC E k' m' → Side E k' m' → contentM (tx T) A.length (Ls E k) (names E k) = (0, A'.length, Ls E k', names E k') → docF (tx T) (f' + 1) A.length (Ls E k) (names E k) = (0, T.length, Ls E n, []) := by
      intro A' k' m' e1 e2 e3 e4 e5
      rw [docF, if_neg hz, e5, if_pos rfl]
      have := IH m' (by omega) k' f' A' e1 (by omega) e4 (by omega)
      rw [← e3] at this
      exact this
    rcases kinds V hkn with h | h | h | h | h
    · -- a start
      have t1 : T = A ++ 60 :: ((E k).name.data.toList ++ tailR E (k + 1) m) := by rw [hT]; simp only [restC]; rw [body1 h]; rfl
      obtain ⟨c, R, hc, q1, q2, q3, q4⟩ := name_first (nameL_of V hkn (.inl h))
      have t2 : T = (A ++ [60]) ++ c :: (R ++ tailR E (k + 1) m) := by rw [t1, hc]; simp
      have t3 : T = (A ++ [60]) ++ (E k).name.data.toList ++ tailR E (k + 1) m := by rw [t1]; simp
      have h60 : hitB (tx T) A.length ⟨#[60]⟩ = true := by rw [t1, hit_one]; rfl
      have el : A.length + 1 = (A ++ [(60 : UInt8)]).length := by simp
      have h47 : hitB (tx T) (A.length + 1) ⟨#[47]⟩ = false := by rw [el, t2, hit_one]; exact q3
      have h33 : hitB (tx T) (A.length + 1) ⟨#[33]⟩ = false := by rw [el, t2, hit_one]; exact q4
      obtain ⟨k', m', A', i1, i2, i3, i4, i5⟩ := start_at V hk h (A ++ [60])
      rw [← t3] at i3 i5
      refine go A' k' m' i1 i2 i3 i4 ?_
      unfold contentM
      rw [h60, h47, h33, el]
      exact i5
    · exact absurd h s1
    · -- a text
      have hval := text_val V hkn h
      have hk1 : k + 1 < n := by
        rcases Nat.lt_or_ge (k + 1) n with q | q
        · exact q
        · have e : k + 1 = n := by omega
          have := last_end (E := E) (n := k) (by rw [e]; exact V.ok) (by rw [e]; exact V.dz)
          omega
      obtain ⟨m1, rfl⟩ : ∃ m1, m = m1 + 1 := ⟨m - 1, by omega⟩
      obtain ⟨R, hR⟩ := tail_lt V (k := k) (m := m1) (by omega) h
      obtain ⟨v, hv⟩ : ∃ v, v = (E k).value.data.toList := ⟨_, rfl⟩
      rw [← hv] at hval
      have eE : E k = ⟨3, ⟨#[]⟩, tx v⟩ := ev_eq h (name_zero V hkn (by omega) s1) (by rw [hv, ba_tx])
      have t1 : T = A ++ escL v ++ 60 :: R := by rw [hT]; simp only [restC]; rw [body3 h, hR, hv]; simp
      have hva := va_at 60 (.inl rfl) v A R
      rw [← t1] at hva
      obtain ⟨c, v', rfl⟩ : ∃ c v', v = c :: v' := by
        cases v with
        | nil => exact absurd rfl hval.1
        | cons c v' => exact ⟨c, v', rfl⟩
      have h60 : hitB (tx T) A.length ⟨#[60]⟩ = false := by
        have eL : escL (c :: v') = esc1 c ++ escL v' := by simp [escL]
        by_cases hc : c = 38 ∨ c = 60 ∨ c = 62 ∨ c = 34
        · obtain ⟨Z, hz, _⟩ := es_at hc [] []
          rw [t1, eL, hz, show A ++ (38 :: Z ++ escL v') ++ 60 :: R = A ++ 38 :: (Z ++ escL v' ++ 60 :: R) by simp, hit_one]; rfl
        · rw [t1, eL, esc1_else (fun e => hc (.inl e)) (fun e => hc (.inr (.inl e))) (fun e => hc (.inr (.inr (.inl e)))) (fun e => hc (.inr (.inr (.inr e)))), show A ++ ([c] ++ escL v') ++ 60 :: R = A ++ c :: (escL v' ++ 60 :: R) by simp, hit_one, beq_eq_false_iff_ne]
          exact fun e => hc (.inr (.inl e.symm))
      have htn : inTagB (E (k + 1 - 1)).kind = false := by rw [show k + 1 - 1 = k from rfl, h]; decide
      refine go (A ++ escL (c :: v')) (k + 1) (m1 + 1) (by omega) (by omega) ?_ (side_next V (by omega) htn) ?_
      · rw [rest_tail htn, hR]; exact t1
      · unfold contentM
        rw [h60]
        show textM (tx T) A.length (Ls E k) (names E k) = _
        have w1 : vaE (tx T) 60 A.length = 0 := hva.1
        have w2 : vaTo (tx T) 60 A.length = (A ++ escL (c :: v')).length := hva.2.1.trans List.length_append.symm
        have w3 : vaS (tx T) 60 A.length = tx (c :: v') := hva.2.2
        unfold textM
        rw [if_pos w1, w2, w3, Ls_succ, eE, names_keep (by omega) (by omega)]
    · -- a comment
      have hcm := comm_val V hkn h
      obtain ⟨v, hv⟩ : ∃ v, v = (E k).value.data.toList := ⟨_, rfl⟩
      rw [← hv] at hcm
      have eE : E k = ⟨4, ⟨#[]⟩, tx v⟩ := ev_eq h (name_zero V hkn (by omega) s1) (by rw [hv, ba_tx])
      have t1 : T = A ++ [60] ++ [33] ++ [45, 45] ++ v ++ [45, 45, 62] ++ tailR E (k + 1) m := by rw [hT]; simp only [restC]; rw [body4 h, hv]; simp
      have t2 : T = A ++ 60 :: (33 :: 45 :: 45 :: (v ++ [45, 45, 62] ++ tailR E (k + 1) m)) := by rw [t1]; simp
      have t3 : T = (A ++ [60]) ++ 33 :: (45 :: 45 :: (v ++ [45, 45, 62] ++ tailR E (k + 1) m)) := by rw [t1]; simp
      have t4 : T = (A ++ [60] ++ [33]) ++ [45, 45] ++ (v ++ [45, 45, 62] ++ tailR E (k + 1) m) := by rw [t1]; simp
      have h60 : hitB (tx T) A.length ⟨#[60]⟩ = true := by rw [t2, hit_one]; rfl
      have el : A.length + 1 = (A ++ [(60 : UInt8)]).length := by simp
      have el2 : A.length + 2 = (A ++ [(60 : UInt8)] ++ [33]).length := by simp
      have h47 : hitB (tx T) (A.length + 1) ⟨#[47]⟩ = false := by rw [el, t3, hit_one]; rfl
      have h33 : hitB (tx T) (A.length + 1) ⟨#[33]⟩ = true := by rw [el, t3, hit_one]; rfl
      have hx := ex_at [45, 45] (A ++ [60] ++ [33]) (v ++ [45, 45, 62] ++ tailR E (k + 1) m)
      rw [← t4] at hx
      have x1 : exE (tx T) (A.length + 2) ⟨#[45, 45]⟩ = 0 := by rw [el2]; exact hx.2
      have x2 : exTo (tx T) (A.length + 2) ⟨#[45, 45]⟩ = (A ++ [60] ++ [33] ++ [45, 45]).length := by rw [el2]; exact hx.1.trans List.length_append.symm
      have hco := co_at hcm (A ++ [60] ++ [33] ++ [45, 45]) (tailR E (k + 1) m)
      rw [← t1] at hco
      have htn : inTagB (E (k + 1 - 1)).kind = false := by rw [show k + 1 - 1 = k from rfl, h]; decide
      refine go (A ++ [60] ++ [33] ++ [45, 45] ++ v ++ [45, 45, 62]) (k + 1) m (by omega) (by omega) ?_ (side_next V (by omega) htn) ?_
      · rw [rest_tail htn]; exact t1
      · unfold contentM
        rw [h60, h47, h33]
        show commentM (tx T) (A.length + 2) (Ls E k) (names E k) = _
        unfold commentM
        rw [x1, x2, hco]
        unfold commM
        rw [if_pos rfl, if_pos rfl, Ls_succ, eE, names_keep (by omega) (by omega)]
        have e9 : (A ++ [60] ++ [33] ++ [45, 45]).length + ((⟨v.toArray⟩ : ByteArray).size + 3) = (A ++ [60] ++ [33] ++ [45, 45] ++ v ++ [45, 45, 62]).length := by
          rw [show (⟨v.toArray⟩ : ByteArray).size = v.length from rfl]
          simp only [List.length_append, List.length_cons, List.length_nil]
          omega
        rw [e9]
        rfl
    · -- an end
      have ht := s2 h
      have hl : 0 < (names E k).length := by omega
      obtain ⟨O, l, hO⟩ : ∃ O l, names E k = O ++ [l] := ⟨(names E k).dropLast, (names E k).getLast (by intro e; rw [e] at hl; cases hl), (List.dropLast_concat_getLast _).symm⟩
      have htop : topName E k = l := by unfold topName; rw [hO]; simp
      have hlm : l ∈ names E k := by rw [hO]; simp
      obtain ⟨p, hp, hpl⟩ := List.mem_map.1 hlm
      obtain ⟨p1, p2⟩ := opens_mem hp
      have hX := nameL_of V (k := p) (by omega) (.inl p2)
      rw [hpl] at hX
      obtain ⟨X, hXe⟩ : ∃ X, X = l.data.toList := ⟨_, rfl⟩
      rw [← hXe] at hX
      have eE : E k = evEnd := ev_eq h (name_zero V hkn (by omega) s1) (value_zero V hkn (.inr h))
      have t1 : T = A ++ [60] ++ [47] ++ X ++ [62] ++ tailR E (k + 1) m := by rw [hT]; simp only [restC]; rw [body5n h ht, htop, hXe]; simp
      have t2 : T = A ++ 60 :: (47 :: (X ++ [62] ++ tailR E (k + 1) m)) := by rw [t1]; simp
      have t3 : T = (A ++ [60]) ++ 47 :: (X ++ [62] ++ tailR E (k + 1) m) := by rw [t1]; simp
      have t4 : T = (A ++ [60] ++ [47]) ++ X ++ (62 :: tailR E (k + 1) m) := by rw [t1]; simp
      have t5 : T = (A ++ [60] ++ [47] ++ X) ++ 62 :: tailR E (k + 1) m := by rw [t1]; simp
      have h60 : hitB (tx T) A.length ⟨#[60]⟩ = true := by rw [t2, hit_one]; rfl
      have el : A.length + 1 = (A ++ [(60 : UInt8)]).length := by simp
      have el2 : A.length + 2 = (A ++ [(60 : UInt8)] ++ [47]).length := by simp
      have h47 : hitB (tx T) (A.length + 1) ⟨#[47]⟩ = true := by rw [el, t3, hit_one]; rfl
      have a := nm_at hX (A ++ [60] ++ [47]) (62 :: tailR E (k + 1) m) (fun y Y' e => by
        simp only [List.cons.injEq] at e
        rw [← e.1]; decide)
      rw [← t4, ← el2] at a
      have a1 : nmTo (tx T) (A.length + 2) = (A ++ [60] ++ [47] ++ X).length := by rw [a.1, el2]; exact List.length_append.symm
      have hp' : enP (tx T) (A.length + 2) = (A ++ [60] ++ [47] ++ X).length := by
        unfold enP
        rw [a1, t5]
        exact bl_none _ _ _ (by decide)
      have hx := ex_at [62] (A ++ [60] ++ [47] ++ X) (tailR E (k + 1) m)
      rw [← t1] at hx
      have x1 : exE (tx T) (enP (tx T) (A.length + 2)) ⟨#[62]⟩ = 0 := by rw [hp']; exact hx.2
      have x2 : exTo (tx T) (enP (tx T) (A.length + 2)) ⟨#[62]⟩ = (A ++ [60] ++ [47] ++ X ++ [62]).length := by rw [hp']; exact hx.1.trans List.length_append.symm
      have hlast : lastB (O ++ [l]) (tx X) = true := by
        unfold lastB
        rw [hXe, ba_tx]
        simp
      have htn : inTagB (E (k + 1 - 1)).kind = false := by rw [show k + 1 - 1 = k from rfl, h]; decide
      refine go (A ++ [60] ++ [47] ++ X ++ [62]) (k + 1) m (by omega) (by omega) ?_ (side_next V (by omega) htn) ?_
      · rw [rest_tail htn]; exact t1
      · unfold contentM
        rw [h60, h47]
        show enM (tx T) (A.length + 2) (Ls E k) (names E k) = _
        unfold enM
        rw [x1, x2, a.2.1, a.2.2, hO]
        unfold endM
        rw [if_pos rfl, if_pos rfl, if_pos hlast, List.dropLast_concat, Ls_succ, eE, names_pop h, hO, List.dropLast_concat]
        rfl
/-- a document's text is parsed as it was shown -/
theorem show_back {E : Nat → Ev} {n : Nat} (V : Val E n) : documentM (tx (showR E n)) = (0, (showR E n).length, Ls E n, []) := by
  have h1 : (E 0).kind = 1 := first_start V.ok V.pos
  obtain ⟨m, hm⟩ : ∃ m, n = 0 + (m + 1) := ⟨n - 1, by have := V.pos; omega⟩
  have hsh : showR E n = [] ++ tailR E 0 (m + 1) := by
    have := showR_tail E (m + 1) 0
    rw [hm, this]
    rfl
  have hg : gt E 0 = [] := by unfold gt gtB; simp
  have t1 : showR E n = [60] ++ (E 0).name.data.toList ++ tailR E (0 + 1) m := by rw [hsh]; simp only [tailR]; rw [hg, body1 h1]; simp
  obtain ⟨T, hT⟩ : ∃ T, T = showR E n := ⟨_, rfl⟩
  rw [← hT] at t1 ⊢
  have hx := ex_at [60] [] ((E 0).name.data.toList ++ tailR E (0 + 1) m)
  rw [show [] ++ [60] ++ ((E 0).name.data.toList ++ tailR E (0 + 1) m) = T by rw [t1]; simp] at hx
  have x1 : exE (tx T) 0 ⟨#[60]⟩ = 0 := hx.2
  have x2 : exTo (tx T) 0 ⟨#[60]⟩ = ([60] : List UInt8).length := hx.1
  obtain ⟨k', m', A', i1, i2, i3, i4, i5⟩ := start_at V (k := 0) (m := m) (by omega) h1 [60]
  rw [← t1] at i3 i5
  have i6 : startM (tx T) (exTo (tx T) 0 ⟨#[60]⟩) [] [] = (0, A'.length, Ls E k', names E k') := by rw [x2]; exact i5
  have hl : m' ≤ T.length := by
    rw [i3, List.length_append]
    cases m' with
    | zero => exact Nat.zero_le _
    | succ m'' =>
      have := tail_len V m'' (k' + 1) (by omega)
      have := body_pos V (show k' < n by omega)
      simp only [restC, List.length_append]
      omega
  have hd := doc_at V m' m' (Nat.le_refl _) k' ((tx T).size + 1) A' i1 (by omega) i4 (by rw [tx_size]; omega)
  rw [← i3] at hd
  unfold documentM
  rw [if_pos x1, i6, if_pos rfl]
  exact hd
end Go.Proofs.YtoifdcipialciaaDoor
