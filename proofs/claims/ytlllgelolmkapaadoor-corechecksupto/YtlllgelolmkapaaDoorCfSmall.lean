/-
  CONTRACTS: the document's small functions about expressions of the core.
-/
import Derived.Test.YtlllgelolmkapaaDoorCkSt
import Derived.Test.YtlllgelolmkapaaDoorNames
set_option linter.unusedVariables false
namespace Go.Proofs.YtlllgelolmkapaaDoor
set_option maxRecDepth 100000
open Go.RowKit Go.WideShapes

theorem same_comm (x y : ByteArray) : (x.toList == y.toList) = (y.toList == x.toList) := Bool.eq_iff_iff.2 (same_iff.trans (eq_comm.trans same_iff.symm))
theorem argCount_1 (w : World) : Calls Tryd.prog 22 #[.int .i64 1] w fun e w' => e = .returned (.int .i64 (0)) ∧ w' = w := by
  go_enter Tryd.func22, Tryd.ntmps22
  go_wp2
  go_ret
  exact ⟨rfl, rfl⟩
theorem argCount_2 (w : World) : Calls Tryd.prog 22 #[.int .i64 2] w fun e w' => e = .returned (.int .i64 (0)) ∧ w' = w := by
  go_enter Tryd.func22, Tryd.ntmps22
  go_wp2
  go_ret
  exact ⟨rfl, rfl⟩
theorem argCount_3 (w : World) : Calls Tryd.prog 22 #[.int .i64 3] w fun e w' => e = .returned (.int .i64 (-1)) ∧ w' = w := by
  go_enter Tryd.func22, Tryd.ntmps22
  go_wp2
  go_ret
  exact ⟨rfl, rfl⟩
theorem argCount_4 (w : World) : Calls Tryd.prog 22 #[.int .i64 4] w fun e w' => e = .returned (.int .i64 (2)) ∧ w' = w := by
  go_enter Tryd.func22, Tryd.ntmps22
  go_wp2
  go_ret
  exact ⟨rfl, rfl⟩
theorem argCount_5 (w : World) : Calls Tryd.prog 22 #[.int .i64 5] w fun e w' => e = .returned (.int .i64 (2)) ∧ w' = w := by
  go_enter Tryd.func22, Tryd.ntmps22
  go_wp2
  go_ret
  exact ⟨rfl, rfl⟩
theorem argCount_6 (w : World) : Calls Tryd.prog 22 #[.int .i64 6] w fun e w' => e = .returned (.int .i64 (3)) ∧ w' = w := by
  go_enter Tryd.func22, Tryd.ntmps22
  go_wp2
  go_ret
  exact ⟨rfl, rfl⟩
theorem argCount_7 (w : World) : Calls Tryd.prog 22 #[.int .i64 7] w fun e w' => e = .returned (.int .i64 (3)) ∧ w' = w := by
  go_enter Tryd.func22, Tryd.ntmps22
  go_wp2
  go_ret
  exact ⟨rfl, rfl⟩
theorem argCount_8 (w : World) : Calls Tryd.prog 22 #[.int .i64 8] w fun e w' => e = .returned (.int .i64 (-1)) ∧ w' = w := by
  go_enter Tryd.func22, Tryd.ntmps22
  go_wp2
  go_ret
  exact ⟨rfl, rfl⟩
theorem argCount_9 (w : World) : Calls Tryd.prog 22 #[.int .i64 9] w fun e w' => e = .returned (.int .i64 (1)) ∧ w' = w := by
  go_enter Tryd.func22, Tryd.ntmps22
  go_wp2
  go_ret
  exact ⟨rfl, rfl⟩
theorem argCount_10 (w : World) : Calls Tryd.prog 22 #[.int .i64 10] w fun e w' => e = .returned (.int .i64 (1)) ∧ w' = w := by
  go_enter Tryd.func22, Tryd.ntmps22
  go_wp2
  go_ret
  exact ⟨rfl, rfl⟩
theorem argCount_11 (w : World) : Calls Tryd.prog 22 #[.int .i64 11] w fun e w' => e = .returned (.int .i64 (0)) ∧ w' = w := by
  go_enter Tryd.func22, Tryd.ntmps22
  go_wp2
  go_ret
  exact ⟨rfl, rfl⟩
theorem varMay_is (s : ByteArray) (w : World) (hs : s.size ≤ maxLen) : Calls Tryd.prog 38 #[.string s] w fun e w' => e = .returned (.bool (inB s.size 1 20)) ∧ w' = w := by
  unfold maxLen at hs
  go_enter Tryd.func38, Tryd.ntmps38
  go_wp2_with (go_at_call 21; refine (in_any _ _ _ _).mono ?_; rintro e w' ⟨rfl, rfl⟩)
  go_ret
  exact ⟨rfl, rfl⟩
theorem stepMay_is (ax tk : Int) (tn : ByteArray) (w : World) : Calls Tryd.prog 27 #[.int .i64 ax, .agg #[.int .i64 tk, .string tn]] w fun e w' => e = .returned (.bool (inB ax 1 12 && inB tk 1 5)) ∧ Below w.heap.size w w' := by
  have HB : Hid (∀ o, Below w.heap.size w (w.alloc o)) := fun o => (Below.refl _ _).alloc (Nat.le_refl _) _
  have C1 : Hid (∀ W, Calls Tryd.prog 21 #[.int .i64 ax, .int .i64 1, .int .i64 12] W fun e w' => e = .returned (.bool (inB ax 1 12)) ∧ w' = W) := fun W => in_any _ _ _ _
  have C2 : Hid (∀ W, Calls Tryd.prog 21 #[.int .i64 tk, .int .i64 1, .int .i64 5] W fun e w' => e = .returned (.bool (inB tk 1 5)) ∧ w' = W) := fun W => in_any _ _ _ _
  generalize inB ax 1 12 = p at *
  generalize inB tk 1 5 = q at *
  cases p
  · go_enter Tryd.func27, Tryd.ntmps27
    go_wp2_with (go_at_call 21; refine (C1.out _).mono ?_; rintro e w' ⟨rfl, rfl⟩; clear C1)
    go_ret
    exact ⟨rfl, HB.out _⟩
  · go_enter Tryd.func27, Tryd.ntmps27
    go_wp2_with (first | (go_at_call 21; refine (C1.out _).mono ?_; rintro e w' ⟨rfl, rfl⟩; clear C1) | (go_at_call 21; refine (C2.out _).mono ?_; rintro e w' ⟨rfl, rfl⟩; clear C2))
    go_ret
    exact ⟨by simp, HB.out _⟩
theorem makeFault_is (n : Int) (x : ByteArray) (w : World) (hx : x.size ≤ maxLen) : Calls Tryd.prog 28 #[.int .i64 n, .string x] w fun e w' => e = .returned (.int .i64 (makeF n x)) ∧ w' = w := by
  have C1 : Hid (∀ W, Calls Tryd.prog 39 #[.string x] W fun e w' => e = .returned (.int .i64 (nameF x)) ∧ w' = W) := fun W => nameFault_any x W hx
  by_cases h1 : n = 1
  · subst h1
    have HR : makeF 1 x = nameF x := by simp [makeF]
    rw [HR]
    clear HR
    generalize nameF x = R at *
    go_enter Tryd.func28, Tryd.ntmps28
    go_wp2_with (go_at_call 39; refine (C1.out _).mono ?_; rintro e w' ⟨rfl, rfl⟩)
    go_ret
    exact ⟨rfl, rfl⟩
  by_cases h2 : n = 2
  · subst h2
    have HR : makeF 2 x = nameF x := by simp [makeF]
    rw [HR]
    clear HR
    generalize nameF x = R at *
    go_enter Tryd.func28, Tryd.ntmps28
    go_wp2_with (go_at_call 39; refine (C1.out _).mono ?_; rintro e w' ⟨rfl, rfl⟩)
    go_ret
    exact ⟨rfl, rfl⟩
  by_cases h3 : n = 3
  · subst h3
    have HR : makeF 3 x = 0 := by simp [makeF]
    rw [HR]
    go_enter Tryd.func28, Tryd.ntmps28
    go_wp2
    go_ret
    exact ⟨rfl, rfl⟩
  · have HR : makeF n x = 3 := by unfold makeF; rw [if_neg (by omega), if_neg h3]
    rw [HR]
    have g1 : (n == 1) = false := by simpa using h1
    have g2 : (n == 2) = false := by simpa using h2
    have g3 : (n == 3) = false := by simpa using h3
    clear h1 h2 h3 HR
    go_enter Tryd.func28, Tryd.ntmps28
    go_wp2
    go_ret
    exact ⟨rfl, rfl⟩
/-- what is told of the names that are bound -/
theorem bindFault_let (x a : ByteArray) (w : World) (hx : x.size ≤ maxLen) : Calls Tryd.prog 25 #[.string x, .string a, .bool true] w fun e w' => e = .returned (.int .i64 (namesF x noB)) ∧ w' = w := by
  have C1 : Hid (∀ W, Calls Tryd.prog 38 #[.string x] W fun e w' => e = .returned (.bool (inB x.size 1 20)) ∧ w' = W) := fun W => varMay_is x W hx
  have HR : Hid (namesF x noB = if inB x.size 1 20 = true then 0 else 10) := by
    have hn : noB.size = 0 := rfl
    have : namesF x noB = if inB x.size 1 20 = true then 0 else 10 := by
      by_cases h : inB x.size 1 20 = true
      · have h' : (1 : Int) ≤ (x.size : Int) ∧ (x.size : Int) ≤ 20 := by simpa [inB] using h
        rw [if_pos h]
        unfold namesF
        rw [if_neg (by omega), if_neg (fun h2 => by rw [same_iff.1 h2, hn] at h'; omega)]
      · have h' : ¬ ((1 : Int) ≤ (x.size : Int) ∧ (x.size : Int) ≤ 20) := by simpa [inB] using h
        rw [if_neg h]
        unfold namesF
        rw [if_pos (by omega)]
    exact this
  rw [HR.out]
  generalize inB x.size 1 20 = p at *
  cases p <;>
  · go_enter Tryd.func25, Tryd.ntmps25
    go_wp2_with (go_at_call 38; refine (C1.out _).mono ?_; rintro e w' ⟨rfl, rfl⟩; clear C1)
    go_ret
    exact ⟨rfl, rfl⟩
theorem bindFault_at (x a : ByteArray) (w : World) (hx : x.size ≤ maxLen) (ha : a.size ≤ maxLen) : Calls Tryd.prog 25 #[.string x, .string a, .bool false] w fun e w' => e = .returned (.int .i64 (namesF x a)) ∧ w' = w := by
  have C1 : Hid (∀ W, Calls Tryd.prog 38 #[.string x] W fun e w' => e = .returned (.bool (inB x.size 1 20)) ∧ w' = W) := fun W => varMay_is x W hx
  have C2 : Hid (∀ W, Calls Tryd.prog 38 #[.string a] W fun e w' => e = .returned (.bool (inB a.size 1 20)) ∧ w' = W) := fun W => varMay_is a W ha
  by_cases h1 : inB x.size 1 20 = true
  rotate_left
  · have HR : namesF x a = 10 := by
      unfold namesF
      rw [if_pos]
      simp [inB] at h1
      omega
    rw [HR]
    have h1' : inB x.size 1 20 = false := by simpa using h1
    rw [h1'] at C1
    clear h1 h1' HR C2
    go_enter Tryd.func25, Tryd.ntmps25
    go_wp2_with (go_at_call 38; refine (C1.out _).mono ?_; rintro e w' ⟨rfl, rfl⟩; clear C1)
    go_ret
    exact ⟨rfl, rfl⟩
  rw [h1] at C1
  by_cases h0 : a.size = 0
  · have HR : namesF x a = 0 := by
      unfold namesF
      rw [if_neg (by simp [inB] at h1; omega), if_neg]
      intro h2
      rw [same_iff.1 h2] at h1
      simp [inB] at h1
      omega
    rw [HR]
    have g0 := isEmpty_yes h0
    clear h1 HR C2
    go_enter Tryd.func25, Tryd.ntmps25
    go_wp2_with (go_at_call 38; refine (C1.out _).mono ?_; rintro e w' ⟨rfl, rfl⟩; clear C1)
    go_ret
    exact ⟨rfl, rfl⟩
  have g0 := isEmpty_no h0
  by_cases h2 : inB a.size 1 20 = true
  rotate_left
  · have HR : namesF x a = 10 := by
      unfold namesF
      rw [if_pos]
      simp [inB] at h2
      omega
    rw [HR]
    have h2' : inB a.size 1 20 = false := by simpa using h2
    rw [h2'] at C2
    clear h1 h2 h2' HR
    go_enter Tryd.func25, Tryd.ntmps25
    go_wp2_with (first | (go_at_call 38; refine (C1.out _).mono ?_; rintro e w' ⟨rfl, rfl⟩; clear C1) | (go_at_call 38; refine (C2.out _).mono ?_; rintro e w' ⟨rfl, rfl⟩; clear C2))
    go_ret
    exact ⟨rfl, rfl⟩
  rw [h2] at C2
  have HR : namesF x a = if (a.toList == x.toList) = true then 7 else 0 := by
    have e : (x.toList == a.toList) = (a.toList == x.toList) := same_comm x a
    unfold namesF
    rw [if_neg (by simp [inB] at h1 h2; omega), e]
  rw [HR]
  clear h1 h2 HR
  cases h3 : (a.toList == x.toList) <;>
  · go_enter Tryd.func25, Tryd.ntmps25
    go_wp2_with (first | (go_at_call 38; refine (C1.out _).mono ?_; rintro e w' ⟨rfl, rfl⟩; clear C1) | (go_at_call 38; refine (C2.out _).mono ?_; rintro e w' ⟨rfl, rfl⟩; clear C2))
    go_ret
    exact ⟨rfl, rfl⟩
/-- a scope: a list of texts -/
def ScIs (w : World) (v : Value) (L : List ByteArray) : Prop :=
  ∃ a cap, v = .slice a L.length cap ∧ L.length ≤ cap ∧ cap ≤ maxLen ∧ (0 < L.length → ∃ b off, a = some ⟨b, off, none⟩ ∧ b < w.heap.size ∧ ∀ i (h : i < L.length), w.cell? ⟨b, off + i, none⟩ = some (.string L[i]))
theorem ScIs.nil (w : World) : ScIs w (.slice none 0 0) [] := ⟨none, 0, rfl, Nat.le_refl _, Nat.zero_le _, fun h => absurd h (Nat.lt_irrefl 0)⟩
theorem ScIs.below {w w' : World} {v : Value} {L : List ByteArray} (h : ScIs w v L) (hb : Below w.heap.size w w') : ScIs w' v L := by
  obtain ⟨a, cap, h1, h2, h3, h4⟩ := h
  refine ⟨a, cap, h1, h2, h3, fun h0 => ?_⟩
  obtain ⟨b, off, k1, k2, k3⟩ := h4 h0
  exact ⟨b, off, k1, Nat.lt_of_lt_of_le k2 hb.size, fun i hi => (hb.cell (p := ⟨b, off + i, none⟩) k2).trans (k3 i hi)⟩
theorem hasB_take {L : List ByteArray} {k : Nat} (h : k < L.length) (s : ByteArray) : hasB (L.take (k + 1)) s = (hasB (L.take k) s || (s.toList == L[k].toList)) := by
  unfold hasB
  rw [List.take_succ_eq_append_getElem h, List.any_append]
  simp
set_option maxHeartbeats 800000 in
theorem hasText_is (v : Value) (L : List ByteArray) (s : ByteArray) (w : World) (hv : ScIs w v L) : Calls Tryd.prog 24 #[v, .string s] w fun e w' => e = .returned (.bool (hasB L s)) ∧ w' = w := by
  obtain ⟨a, cap, rfl, hlc, hcm, hc⟩ := hv
  have HC : Hid (0 < L.length → ∃ b off, a = some ⟨b, off, none⟩ ∧ b < w.heap.size ∧ ∀ i (h : i < L.length), w.cell? ⟨b, off + i, none⟩ = some (.string L[i])) := hc
  unfold maxLen at hcm
  clear hc
  go_enter Tryd.func24, Tryd.ntmps24
  go_wp2
  go_loop [5] (fun i => ∃ k : Nat, k ≤ L.length ∧ i = .int .i64 k ∧ hasB (L.take k) s = false) (fun i => L.length - (intOf i).toNat)
  case atStart => exact ⟨0, Nat.zero_le _, rfl, rfl⟩
  case round =>
    obtain ⟨k, hk, rfl, hno⟩ := hrel
    have HNO : Hid (hasB (L.take k) s = false) := hno
    clear hno
    by_cases hlt : k < L.length
    · have hii : (k : Int) < (L.length : Int) := by omega
      obtain ⟨b, off, rfl, hb, hcs⟩ := HC.out (by omega)
      have hcell := hcs k hlt
      have HT : Hid (hasB (L.take (k + 1)) s = (hasB (L.take k) s || (s.toList == L[k].toList))) := hasB_take hlt s
      have HM : Hid (L[k] ∈ L) := List.getElem_mem _
      have he : (L[k].toList == s.toList) = (s.toList == L[k].toList) := same_comm _ _
      generalize L[k] = x at *
      clear hcs
      cases hq : (s.toList == x.toList)
      · rw [hq] at he HT
        go_wp2
        go_round
        case rel => exact ⟨k + 1, by omega, by go_num, by rw [HT.out, HNO.out]; rfl⟩
        case measure => simp [intOf]; omega
      · rw [hq] at he
        go_wp2
        go_ret
        refine ⟨ret_bool ?_, rfl⟩
        have hm := HM.out
        exact (hasB_iff.2 (by rw [same_iff.1 hq]; exact hm)).symm
    · have e : k = L.length := by omega
      subst e
      go_wp2
      go_ret
      have h := HNO.out
      rw [List.take_length] at h
      exact ⟨ret_bool h.symm, rfl⟩
end Go.Proofs.YtlllgelolmkapaaDoor
