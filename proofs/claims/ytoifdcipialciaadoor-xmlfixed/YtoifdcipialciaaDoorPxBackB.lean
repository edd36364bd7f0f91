/-
  WHAT IS SHOWN IS PARSED (plainly): values, comments, attributes.
-/
import Derived.Test.YtoifdcipialciaaDoorPxBackA
set_option linter.unusedVariables false
namespace Go.Proofs.YtoifdcipialciaaDoor
set_option maxRecDepth 100000
open Go.RowKit

theorem es38 (A Y : List UInt8) : esF (tx (A ++ [38, 97, 109, 112, 59] ++ Y)) A.length 4 0 4 = (0, 0) := es_hit (by
  show hitB _ _ ⟨([38, 97, 109, 112, 59] : List UInt8).toArray⟩ = true
  rw [List.append_assoc, hit_at]; rfl)
theorem es60 (A Y : List UInt8) : esF (tx (A ++ [38, 108, 116, 59] ++ Y)) A.length 4 0 4 = (0, 1) := by
  rw [es_miss (by show hitB _ _ ⟨([38, 97, 109, 112, 59] : List UInt8).toArray⟩ = false; rw [List.append_assoc, hit_at]; rfl)]
  exact es_hit (by show hitB _ _ ⟨([38, 108, 116, 59] : List UInt8).toArray⟩ = true; rw [List.append_assoc, hit_at]; rfl)
theorem es62 (A Y : List UInt8) : esF (tx (A ++ [38, 103, 116, 59] ++ Y)) A.length 4 0 4 = (0, 2) := by
  rw [es_miss (by show hitB _ _ ⟨([38, 97, 109, 112, 59] : List UInt8).toArray⟩ = false; rw [List.append_assoc, hit_at]; rfl), es_miss (by show hitB _ _ ⟨([38, 108, 116, 59] : List UInt8).toArray⟩ = false; rw [List.append_assoc, hit_at]; rfl)]
  exact es_hit (by show hitB _ _ ⟨([38, 103, 116, 59] : List UInt8).toArray⟩ = true; rw [List.append_assoc, hit_at]; rfl)
theorem es34 (A Y : List UInt8) : esF (tx (A ++ [38, 113, 117, 111, 116, 59] ++ Y)) A.length 4 0 4 = (0, 3) := by
  rw [es_miss (by show hitB _ _ ⟨([38, 97, 109, 112, 59] : List UInt8).toArray⟩ = false; rw [List.append_assoc, hit_at]; rfl), es_miss (by show hitB _ _ ⟨([38, 108, 116, 59] : List UInt8).toArray⟩ = false; rw [List.append_assoc, hit_at]; rfl), es_miss (by show hitB _ _ ⟨([38, 103, 116, 59] : List UInt8).toArray⟩ = false; rw [List.append_assoc, hit_at]; rfl)]
  exact es_hit (by show hitB _ _ ⟨([38, 113, 117, 111, 116, 59] : List UInt8).toArray⟩ = true; rw [List.append_assoc, hit_at]; rfl)
/-- a byte of the table: what is escaped is taken back -/
theorem es_at {c : UInt8} (hc : c = 38 ∨ c = 60 ∨ c = 62 ∨ c = 34) (A Y : List UInt8) : ∃ Z, esc1 c = 38 :: Z ∧ esE (tx (A ++ esc1 c ++ Y)) A.length = 0 ∧ esTo (tx (A ++ esc1 c ++ Y)) A.length = A.length + (esc1 c).length ∧ tab (esK (tx (A ++ esc1 c ++ Y)) A.length) = c := by
  unfold esTo esE esK
  rcases hc with rfl | rfl | rfl | rfl
  · have h := es38 A Y
    rw [show esc1 38 = [38, 97, 109, 112, 59] from rfl, h]
    exact ⟨_, rfl, rfl, rfl, rfl⟩
  · have h := es60 A Y
    rw [show esc1 60 = [38, 108, 116, 59] from rfl, h]
    exact ⟨_, rfl, rfl, rfl, rfl⟩
  · have h := es62 A Y
    rw [show esc1 62 = [38, 103, 116, 59] from rfl, h]
    exact ⟨_, rfl, rfl, rfl, rfl⟩
  · have h := es34 A Y
    rw [show esc1 34 = [38, 113, 117, 111, 116, 59] from rfl, h]
    exact ⟨_, rfl, rfl, rfl, rfl⟩
theorem esc1_pos (c : UInt8) : 1 ≤ (esc1 c).length := by
  unfold esc1
  repeat' split
  all_goals simp
theorem escL_ge : ∀ v : List UInt8, v.length ≤ (escL v).length
  | [] => Nat.zero_le _
  | c :: v => by
    have := escL_ge v
    have := esc1_pos c
    simp [escL] at *
    omega
theorem toNat_ne' {c d : UInt8} (h : ¬ c = d) : ¬ (c.toNat : Int) = (d.toNat : Int) := fun e => h (UInt8.toNat_inj.1 (by omega))
theorem vaF_at (stop : UInt8) (hst : stop = 60 ∨ stop = 34) : ∀ (v A Y acc : List UInt8) (k : Nat), v.length + 1 ≤ k → vaF (tx (A ++ escL v ++ stop :: Y)) stop.toNat k A.length acc = (0, A.length + (escL v).length, acc ++ v)
  | [], A, Y, acc, k, hk => by
    obtain ⟨k', rfl⟩ : ∃ k', k = k' + 1 := ⟨k - 1, by simp at hk; omega⟩
    rw [show escL [] = [] from rfl, List.append_nil, vaF, if_pos (by rw [tx_size]; simp), if_pos (by rw [byte_at])]
    simp
  | c :: v, A, Y, acc, k, hk => by
    obtain ⟨k', rfl⟩ : ∃ k', k = k' + 1 := ⟨k - 1, by simp at hk; omega⟩
    have hk' : v.length + 1 ≤ k' := by simp at hk; omega
    have eL : escL (c :: v) = esc1 c ++ escL v := by simp [escL]
    by_cases hc : c = 38 ∨ c = 60 ∨ c = 62 ∨ c = 34
    · obtain ⟨Z, hz, h1, h2, h3⟩ := es_at hc A (escL v ++ stop :: Y)
      have eT : A ++ escL (c :: v) ++ stop :: Y = A ++ esc1 c ++ (escL v ++ stop :: Y) := by rw [eL]; simp
      have hb : byteAt (tx (A ++ esc1 c ++ (escL v ++ stop :: Y))) A.length = 38 := by
        rw [hz, show A ++ (38 :: Z) ++ (escL v ++ stop :: Y) = A ++ 38 :: (Z ++ (escL v ++ stop :: Y)) by simp, byte_at]; rfl
      have ih := vaF_at stop hst v (A ++ esc1 c) Y (acc ++ [c]) k' hk'
      rw [eT, vaF, if_pos (by rw [tx_size, hz]; simp), if_neg (by rw [hb]; rcases hst with rfl | rfl <;> decide), if_neg (by rw [hb]; decide), if_pos hb, if_pos h1, h2, h3]
      rw [show A ++ esc1 c ++ escL v ++ stop :: Y = A ++ esc1 c ++ (escL v ++ stop :: Y) by simp, List.length_append] at ih
      rw [ih, eL]
      simp
      omega
    · have n1 : ¬ c = 38 := fun e => hc (.inl e)
      have n2 : ¬ c = 60 := fun e => hc (.inr (.inl e))
      have n3 : ¬ c = 62 := fun e => hc (.inr (.inr (.inl e)))
      have n4 : ¬ c = 34 := fun e => hc (.inr (.inr (.inr e)))
      have e1 : esc1 c = [c] := esc1_else n1 n2 n3 n4
      have eT : A ++ escL (c :: v) ++ stop :: Y = A ++ c :: (escL v ++ stop :: Y) := by rw [eL, e1]; simp
      have ih := vaF_at stop hst v (A ++ [c]) Y (acc ++ [c]) k' hk'
      rw [show A ++ [c] ++ escL v ++ stop :: Y = A ++ c :: (escL v ++ stop :: Y) by simp, List.length_append] at ih
      rw [eT, vaF, if_pos (by rw [tx_size]; simp), byte_at, byteU_at, if_neg (by rcases hst with rfl | rfl; exact toNat_ne' n2; exact toNat_ne' n4), if_neg (by exact toNat_ne' n2), if_neg (by exact toNat_ne' n1)]
      rw [show A.length + 1 = A.length + [c].length from rfl, ih, eL, e1]
      simp
      omega
theorem va_at (stop : UInt8) (hst : stop = 60 ∨ stop = 34) (v A Y : List UInt8) : vaE (tx (A ++ escL v ++ stop :: Y)) stop.toNat A.length = 0 ∧ vaTo (tx (A ++ escL v ++ stop :: Y)) stop.toNat A.length = A.length + (escL v).length ∧ vaS (tx (A ++ escL v ++ stop :: Y)) stop.toNat A.length = tx v := by
  have h := vaF_at stop hst v A Y [] ((tx (A ++ escL v ++ stop :: Y)).size - A.length) (by have := escL_ge v; rw [tx_size]; simp; omega)
  have hR : vaR (tx (A ++ escL v ++ stop :: Y)) stop.toNat A.length = (0, A.length + (escL v).length, v) := by unfold vaR; rw [h]; rfl
  have hE : vaE (tx (A ++ escL v ++ stop :: Y)) stop.toNat A.length = 0 := by unfold vaE; rw [hR]
  refine ⟨hE, by unfold vaTo; rw [hR], ?_⟩
  unfold vaS
  rw [if_pos hE, hR]
  rfl
theorem bad_comm {v : List UInt8} (h : commB (tx v) = false) : (∀ j, j + 1 < v.length → ¬ (v[j]? = some 45 ∧ v[j + 1]? = some 45)) ∧ ¬ v.getLast? = some 45 := by
  unfold commB at h
  rw [Bool.or_eq_false_iff, tx_list] at h
  obtain ⟨h1, h2⟩ := h
  refine ⟨fun j hj ⟨e1, e2⟩ => ?_, fun e => ?_⟩
  · unfold Lib.contains at h1
    have hn := of_decide_eq_false h1
    rcases Lib.index_spec v [45, 45] with ⟨_, hs⟩ | ⟨i, hi, _⟩
    · have := hs j (by omega)
      unfold Lib.occAt at this
      have hlt : j < v.length := by omega
      rw [List.drop_eq_getElem_cons hlt, List.drop_eq_getElem_cons hj] at this
      rw [List.getElem?_eq_getElem hlt] at e1
      rw [List.getElem?_eq_getElem hj] at e2
      simp only [Option.some.injEq] at e1 e2
      rw [e1, e2] at this
      simp [List.isPrefixOf] at this
    · rw [hi] at hn; omega
  · unfold Lib.hasSuffix at h2
    obtain ⟨l, rfl⟩ := List.getLast?_eq_some_iff.1 e
    have : ([45] : List UInt8).isSuffixOf (l ++ [45]) = true := List.isSuffixOf_iff_suffix.2 ⟨l, rfl⟩
    rw [this] at h2
    cases h2
theorem co_at {v : List UInt8} (h : commB (tx v) = false) (A Y : List UInt8) : coC (tx (A ++ v ++ [45, 45, 62] ++ Y)) A.length = (v, Y, true) := by
  obtain ⟨c1, c2⟩ := bad_comm h
  unfold coC
  rw [tx_rest, show A ++ v ++ [45, 45, 62] ++ Y = A ++ (v ++ ([45, 45, 62] ++ Y)) by simp, List.drop_left]
  have hi : Lib.index (v ++ ([45, 45, 62] ++ Y)) [45, 45, 62] = (v.length : Int) := by
    refine Lib.index_first (by simp) ?_ ?_
    · unfold Lib.occAt
      rw [List.drop_left]
      rfl
    · intro j hj
      unfold Lib.occAt
      have hlt : j < v.length := hj
      rw [List.drop_append_of_le_length (by omega), List.drop_eq_getElem_cons hlt]
      by_cases hj2 : j + 1 < v.length
      · rw [List.drop_eq_getElem_cons hj2]
        have := c1 j hj2
        rw [List.getElem?_eq_getElem hlt, List.getElem?_eq_getElem hj2] at this
        simp only [Option.some.injEq] at this
        simp only [List.cons_append, List.isPrefixOf, Bool.and_eq_false_iff, beq_eq_false_iff_ne]
        by_cases q1 : v[j] = 45
        · exact .inr (.inl (fun e => this ⟨q1, e.symm⟩))
        · exact .inl (fun e => q1 e.symm)
      · have hl : v.getLast? = some v[j] := by
          rw [List.getLast?_eq_getElem?, show v.length - 1 = j by omega, List.getElem?_eq_getElem hlt]
        rw [hl] at c2
        simp only [List.cons_append, List.isPrefixOf, Bool.and_eq_false_iff, beq_eq_false_iff_ne]
        exact .inl (fun e => c2 (by rw [← e]))
  unfold Lib.cut
  rw [hi, if_pos (by omega)]
  simp
/-- an attribute -/
theorem attr_at {X : List UInt8} (hX : NameL X) (v A Y : List UInt8) (L : List Ev) (O : List ByteArray) :
    attrM (tx (A ++ (X ++ [61, 34] ++ escL v ++ [34]) ++ Y)) A.length L O = (0, A.length + (X ++ [61, 34] ++ escL v ++ [34]).length, L ++ [⟨2, tx X, tx v⟩], O) := by
  obtain ⟨T, hT⟩ : ∃ T, T = A ++ (X ++ [61, 34] ++ escL v ++ [34]) ++ Y := ⟨_, rfl⟩
  have a := nm_at hX A ([61, 34] ++ escL v ++ [34] ++ Y) (fun y Y' e => by
    simp at e
    rw [← e.1]; decide)
  rw [show A ++ X ++ ([61, 34] ++ escL v ++ [34] ++ Y) = T by rw [hT]; simp] at a
  have b := ex_at [61, 34] (A ++ X) (escL v ++ [34] ++ Y)
  rw [show A ++ X ++ [61, 34] ++ (escL v ++ [34] ++ Y) = T by rw [hT]; simp] at b
  have c := va_at 34 (.inr rfl) v (A ++ X ++ [61, 34]) Y
  rw [show A ++ X ++ [61, 34] ++ escL v ++ 34 :: Y = T by rw [hT]; simp] at c
  have d := ex_at [34] (A ++ X ++ [61, 34] ++ escL v) Y
  rw [show A ++ X ++ [61, 34] ++ escL v ++ [34] ++ Y = T by rw [hT]; simp] at d
  rw [← hT]
  have eP : atP (tx T) A.length = (A ++ X ++ [61, 34]).length := by
    unfold atP
    rw [a.1, show A.length + X.length = (A ++ X).length by simp]
    exact b.1.trans List.length_append.symm
  have b2 : exE (tx T) (nmTo (tx T) A.length) ⟨#[61, 34]⟩ = 0 := by
    rw [a.1, show A.length + X.length = (A ++ X).length by simp]
    exact b.2
  have c1 : vaE (tx T) 34 (atP (tx T) A.length) = 0 := by rw [eP]; exact c.1
  have c2 : vaTo (tx T) 34 (atP (tx T) A.length) = (A ++ X ++ [61, 34] ++ escL v).length := by rw [eP]; exact c.2.1.trans List.length_append.symm
  have c3 : vaS (tx T) 34 (atP (tx T) A.length) = tx v := by rw [eP]; exact c.2.2
  have d1 : exE (tx T) (vaTo (tx T) 34 (atP (tx T) A.length)) ⟨#[34]⟩ = 0 := by rw [c2]; exact d.2
  have d2 : exTo (tx T) (vaTo (tx T) 34 (atP (tx T) A.length)) ⟨#[34]⟩ = (A ++ X ++ [61, 34] ++ escL v).length + 1 := by rw [c2]; exact d.1
  have e : (A ++ X ++ [61, 34] ++ escL v).length + 1 = A.length + (X ++ [61, 34] ++ escL v ++ [34]).length := by
    simp only [List.length_append, List.length_cons, List.length_nil]; omega
  rw [e] at d2
  have hL : (L ++ [⟨2, nmS (tx T) A.length, vaS (tx T) 34 (atP (tx T) A.length)⟩] : List Ev) = L ++ [⟨2, tx X, tx v⟩] := by rw [c3, a.2.2]
  have h : attrM (tx T) A.length L O = (exE (tx T) (vaTo (tx T) 34 (atP (tx T) A.length)) ⟨#[34]⟩, exTo (tx T) (vaTo (tx T) 34 (atP (tx T) A.length)) ⟨#[34]⟩, L ++ [⟨2, nmS (tx T) A.length, vaS (tx T) 34 (atP (tx T) A.length)⟩], O) := by
    unfold attrM
    rw [if_pos a.2.1, if_pos b2, if_pos c1]
  rw [h, hL, d1, d2]
end Go.Proofs.YtoifdcipialciaaDoor
