/-
  CONTRACTS of the document's answers items and texts (lists put together, one by one).
-/
import Derived.Test.YtlblomlblibbdaaDoorRlCat
set_option linter.unusedVariables false
namespace Go.Proofs.YtlblomlblibbdaaDoor
set_option maxRecDepth 100000
open Go.RowKit Go.WideShapes

def elemI (x : It) : List Value := [.int .i64 x.kind, .int .i64 x.n, .string x.s]
theorem itCells_succ (X : Nat → It) (n : Nat) : itCells X (n + 1) = itCells X n ++ elemI (X n) := by
  unfold itCells elemI
  rw [show (n + 1) * 3 = n * 3 + 1 + 1 + 1 by omega]
  simp only [List.range_succ, List.map_append, List.map_cons, List.map_nil, List.append_assoc, List.cons_append, List.nil_append]
  rw [show n * 3 / 3 = n by omega, show n * 3 % 3 = 0 by omega, show (n * 3 + 1) / 3 = n by omega, show (n * 3 + 1) % 3 = 1 by omega, show (n * 3 + 1 + 1) / 3 = n by omega, show (n * 3 + 1 + 1) % 3 = 2 by omega]
  rfl
theorem elemI_in {w : World} (x : It) : ∀ j u, (elemI x)[j]? = some u → (w.alloc (.cells #[.int .i64 x.kind, .int .i64 x.n, .string x.s] 38)).cell? ((⟨w.heap.size, 0, none⟩ : Addr).add j) = some u := by
  intro j u hj
  have hj3 : j < 3 := (List.getElem?_eq_some_iff.1 hj).1
  match j, hj3 with
  | 0, _ => simp [elemI] at hj; subst hj; simp [Addr.add]
  | 1, _ => simp [elemI] at hj; subst hj; simp [Addr.add]
  | 2, _ => simp [elemI] at hj; subst hj; simp [Addr.add]
theorem elemI_one (x : It) : ∀ u ∈ elemI x, u.oneCell' = true := by
  intro u hu
  simp [elemI] at hu
  rcases hu with rfl | rfl | rfl <;> rfl
set_option maxHeartbeats 1600000 in
theorem listsI_some (b off m cap : Nat) (R : Nat → Row) (w : World) (hm : m ≤ cap) (hcap : cap ≤ maxLen) (hb0 : b < w.heap.size) (hR : SeqsI w b off m R) (htot : (catI R m).len * 32 ≤ 140737488351232) :
    Calls Tryd.prog 24 #[.slice (some ⟨b, off, none⟩) m cap] w fun e w' => ∃ v, e = .returned v ∧ w'.ownsRow w.heap.size 38 3 v (catI R m).len (itCells (catI R m).at_ (catI R m).len) ∧ Below w.heap.size w w' := by
  have hmm : m ≤ 9223372036854775807 := by unfold maxLen at hcap; omega
  have HR : Hid (∀ W, Below w.heap.size w W → SeqsI W b off m R) := fun W hW => hR.below (B := 0) hb0 hW
  have HMO : Hid (∀ k, k ≤ m → (catI R k).len ≤ (catI R m).len) := fun k hk => catI_mono R hk
  have HSU : Hid (∀ k, (catI R (k + 1)).len = (catI R k).len + (R k).len) := fun k => rfl
  have HCE : Hid (∀ k, itCells (catI R (k + 1)).at_ (catI R (k + 1)).len = itCells (catI R k).at_ (catI R k).len ++ itCells (R k).at_ (R k).len) := fun k => cells_appI (catI R k) (R k)
  obtain ⟨i0, hi0, hz0, hz1, hz2⟩ := info_parts infoItem
  clear hR hcap
  go_enter Tryd.func24, Tryd.ntmps24
  go_wp2
  go_loopw [3, 4] (fun v i wr => ∃ k : Nat, k ≤ m ∧ i = .int .i64 k ∧ wr.ownsRow w.heap.size 38 3 v (catI R k).len (itCells (catI R k).at_ (catI R k).len) ∧ Below w.heap.size w wr) (fun _ i _ => m - (intOf i).toNat)
  case atStart => exact ⟨0, Nat.zero_le _, rfl, World.ownsRow_nil _ _ _ _, Below.refl _ _⟩
  case round =>
    obtain ⟨k, hk, rfl, hv, hbr⟩ := hrel
    obtain ⟨va, vc, rfl⟩ := own_shape hv
    have HV : Hid (wr.ownsRow w.heap.size 38 3 (.slice va (catI R k).len vc) (catI R k).len (itCells (catI R k).at_ (catI R k).len)) := hv
    have HBR : Hid (Below w.heap.size w wr) := hbr
    clear hv hbr
    by_cases hlt : k < m
    · have hki : (k : Int) < (m : Int) := by omega
      have h1 := HMO.out (k + 1) (by omega)
      have hs := HSU.out k
      have hsum : (catI R k).len + (R k).len ≤ (catI R m).len := by omega
      have HS : Hid ((catI R (k + 1)).len = (catI R k).len + (R k).len) := hs
      clear h1 hs
      go_wp2
      go_loopw [3, 5] (fun v i wr => ∃ q : Nat, q ≤ (R k).len ∧ i = .int .i64 q ∧ wr.ownsRow w.heap.size 38 3 v ((catI R k).len + q) (itCells (catI R k).at_ (catI R k).len ++ itCells (R k).at_ q) ∧ Below w.heap.size w wr) (fun _ i _ => (R k).len - (intOf i).toNat)
      case atStart => exact ⟨0, Nat.zero_le _, rfl, by rw [show itCells (R k).at_ 0 = [] from rfl, List.append_nil]; exact HV.out, HBR.out⟩
      case round =>
        obtain ⟨q, hq, rfl, hv, hbr⟩ := hrel
        obtain ⟨va2, vc2, rfl⟩ := own_shape hv
        have HV2 : Hid (wr.ownsRow w.heap.size 38 3 (.slice va2 ((catI R k).len + q) vc2) ((catI R k).len + q) (itCells (catI R k).at_ (catI R k).len ++ itCells (R k).at_ q)) := hv
        have HB2 : Hid (Below w.heap.size w wr) := hbr
        have hzr : w.heap.size ≤ wr.heap.size := hbr.size
        obtain ⟨u, e1, hu⟩ := HR.out wr hbr k hlt
        have hbz : b < wr.heap.size := by omega
        obtain ⟨ua, ucap, rfl, u1, u2, _, u3⟩ := hu
        have hun : (R k).len ≤ 9223372036854775807 := by unfold maxLen at u2; omega
        clear hv hbr u2
        by_cases hqk : q < (R k).len
        · obtain ⟨ub, uoff, rfl, ub1, ub2⟩ := u3 (by omega)
          have hqi : (q : Int) < ((R k).len : Int) := by omega
          obtain ⟨g1, g2, g3⟩ := ub2 q hqk
          clear ub2 u3
          go_wp2_with (first | (at_builtin; refine wpList_append_own _ rfl (.tmp 21) (.tmp 29) 32 rfl w.heap.size 38 i0 _ 3 32 Tryd.underlying32 hi0 hz0 hz1 hz2 rfl (by decide) _ _ _ rfl (HV2.out.alloc _) ⟨wr.heap.size, 0, none⟩ 1 1 (elemI ((R k).at_ q)) rfl rfl (elemI_in ((R k).at_ q)) (elemI_one _) (by unfold maxLen; omega) (by omega) (by simp <;> omega) ?_; intro v6 w6 hown6 hgrow6 _; obtain ⟨va6, vc6, rfl⟩ := own_shape hown6; have HV6 : Hid (w6.ownsRow w.heap.size 38 3 (.slice va6 ((catI R k).len + q + 1) vc6) ((catI R k).len + q + 1) (itCells (catI R k).at_ (catI R k).len ++ itCells (R k).at_ q ++ elemI ((R k).at_ q))) := hown6; have HB6 : Hid (Below w.heap.size w w6) := (HB2.out.alloc hzr _).grown hgrow6 (by simp <;> omega) (fun z hz => (HV2.out.lt z hz).1); clear hown6 hgrow6))
          go_roundw
          case rel => exact ⟨q + 1, by omega, by go_num, by rw [itCells_succ, ← List.append_assoc, ← Nat.add_assoc]; exact HV6.out, HB6.out⟩
          case measure => simp [intOf]; omega
        · have e : q = (R k).len := by omega
          subst e
          clear u3
          go_wp2
          go_roundw
          case rel => exact ⟨k + 1, by omega, by go_num, by rw [HCE.out, HS.out]; exact HV2.out, HB2.out⟩
          case measure => simp [intOf]; omega
    · have e : k = m := by omega
      subst e
      go_wp2
      go_ret
      exact ⟨_, rfl, HV.out, HBR.out⟩

def elemS (x : ByteArray) : List Value := [.string x]
theorem strCells_succ (X : Nat → ByteArray) (n : Nat) : strCells X (n + 1) = strCells X n ++ elemS (X n) := by
  unfold strCells elemS
  simp [List.range_succ]
theorem elemS_in {w : World} (x : ByteArray) : ∀ j u, (elemS x)[j]? = some u → (w.alloc (.cells #[.string x] 9)).cell? ((⟨w.heap.size, 0, none⟩ : Addr).add j) = some u := by
  intro j u hj
  have hj3 : j < 1 := (List.getElem?_eq_some_iff.1 hj).1
  match j, hj3 with
  | 0, _ => simp [elemS] at hj; subst hj; simp [Addr.add]
theorem elemS_one (x : ByteArray) : ∀ u ∈ elemS x, u.oneCell' = true := by
  intro u hu
  simp [elemS] at hu
  rw [hu]; rfl
set_option maxHeartbeats 1600000 in
theorem listsS_some (b off m cap : Nat) (R : Nat → Txts) (w : World) (hm : m ≤ cap) (hcap : cap ≤ maxLen) (hb0 : b < w.heap.size) (hR : SeqsS w b off m R) (htot : (catS R m).len * 16 ≤ 140737488351232) :
    Calls Tryd.prog 26 #[.slice (some ⟨b, off, none⟩) m cap] w fun e w' => ∃ v, e = .returned v ∧ w'.ownsRow w.heap.size 9 1 v (catS R m).len (strCells (catS R m).at_ (catS R m).len) ∧ Below w.heap.size w w' := by
  have hmm : m ≤ 9223372036854775807 := by unfold maxLen at hcap; omega
  have HR : Hid (∀ W, Below w.heap.size w W → SeqsS W b off m R) := fun W hW => hR.below (B := 0) hb0 hW
  have HMO : Hid (∀ k, k ≤ m → (catS R k).len ≤ (catS R m).len) := fun k hk => catS_mono R hk
  have HSU : Hid (∀ k, (catS R (k + 1)).len = (catS R k).len + (R k).len) := fun k => rfl
  have HCE : Hid (∀ k, strCells (catS R (k + 1)).at_ (catS R (k + 1)).len = strCells (catS R k).at_ (catS R k).len ++ strCells (R k).at_ (R k).len) := fun k => cells_appS (catS R k) (R k)
  obtain ⟨i0, hi0, hz0, hz1, hz2⟩ := info_parts infoStr
  clear hR hcap
  go_enter Tryd.func26, Tryd.ntmps26
  go_wp2
  go_loopw [3, 4] (fun v i wr => ∃ k : Nat, k ≤ m ∧ i = .int .i64 k ∧ wr.ownsRow w.heap.size 9 1 v (catS R k).len (strCells (catS R k).at_ (catS R k).len) ∧ Below w.heap.size w wr) (fun _ i _ => m - (intOf i).toNat)
  case atStart => exact ⟨0, Nat.zero_le _, rfl, World.ownsRow_nil _ _ _ _, Below.refl _ _⟩
  case round =>
    obtain ⟨k, hk, rfl, hv, hbr⟩ := hrel
    obtain ⟨va, vc, rfl⟩ := own_shape hv
    have HV : Hid (wr.ownsRow w.heap.size 9 1 (.slice va (catS R k).len vc) (catS R k).len (strCells (catS R k).at_ (catS R k).len)) := hv
    have HBR : Hid (Below w.heap.size w wr) := hbr
    clear hv hbr
    by_cases hlt : k < m
    · have hki : (k : Int) < (m : Int) := by omega
      have h1 := HMO.out (k + 1) (by omega)
      have hs := HSU.out k
      have hsum : (catS R k).len + (R k).len ≤ (catS R m).len := by omega
      have HS : Hid ((catS R (k + 1)).len = (catS R k).len + (R k).len) := hs
      clear h1 hs
      go_wp2
      go_loopw [3, 5] (fun v i wr => ∃ q : Nat, q ≤ (R k).len ∧ i = .int .i64 q ∧ wr.ownsRow w.heap.size 9 1 v ((catS R k).len + q) (strCells (catS R k).at_ (catS R k).len ++ strCells (R k).at_ q) ∧ Below w.heap.size w wr) (fun _ i _ => (R k).len - (intOf i).toNat)
      case atStart => exact ⟨0, Nat.zero_le _, rfl, by rw [show strCells (R k).at_ 0 = [] from rfl, List.append_nil]; exact HV.out, HBR.out⟩
      case round =>
        obtain ⟨q, hq, rfl, hv, hbr⟩ := hrel
        obtain ⟨va2, vc2, rfl⟩ := own_shape hv
        have HV2 : Hid (wr.ownsRow w.heap.size 9 1 (.slice va2 ((catS R k).len + q) vc2) ((catS R k).len + q) (strCells (catS R k).at_ (catS R k).len ++ strCells (R k).at_ q)) := hv
        have HB2 : Hid (Below w.heap.size w wr) := hbr
        have hzr : w.heap.size ≤ wr.heap.size := hbr.size
        obtain ⟨u, e1, hu⟩ := HR.out wr hbr k hlt
        have hbz : b < wr.heap.size := by omega
        obtain ⟨ua, ucap, rfl, u1, u2, _, u3⟩ := hu
        have hun : (R k).len ≤ 9223372036854775807 := by unfold maxLen at u2; omega
        clear hv hbr u2
        by_cases hqk : q < (R k).len
        · obtain ⟨ub, uoff, rfl, ub1, ub2⟩ := u3 (by omega)
          have hqi : (q : Int) < ((R k).len : Int) := by omega
          have g1 := ub2 q hqk
          clear ub2 u3
          go_wp2_with (first | (at_builtin; refine wpList_append_own _ rfl (.tmp 21) (.tmp 29) 22 rfl w.heap.size 9 i0 _ 1 16 Tryd.underlying22 hi0 hz0 hz1 hz2 rfl (by decide) _ _ _ rfl (HV2.out.alloc _) ⟨wr.heap.size, 0, none⟩ 1 1 (elemS ((R k).at_ q)) rfl rfl (elemS_in ((R k).at_ q)) (elemS_one _) (by unfold maxLen; omega) (by omega) (by simp <;> omega) ?_; intro v6 w6 hown6 hgrow6 _; obtain ⟨va6, vc6, rfl⟩ := own_shape hown6; have HV6 : Hid (w6.ownsRow w.heap.size 9 1 (.slice va6 ((catS R k).len + q + 1) vc6) ((catS R k).len + q + 1) (strCells (catS R k).at_ (catS R k).len ++ strCells (R k).at_ q ++ elemS ((R k).at_ q))) := hown6; have HB6 : Hid (Below w.heap.size w w6) := (HB2.out.alloc hzr _).grown hgrow6 (by simp <;> omega) (fun z hz => (HV2.out.lt z hz).1); clear hown6 hgrow6))
          go_roundw
          case rel => exact ⟨q + 1, by omega, by go_num, by rw [strCells_succ, ← List.append_assoc, ← Nat.add_assoc]; exact HV6.out, HB6.out⟩
          case measure => simp [intOf]; omega
        · have e : q = (R k).len := by omega
          subst e
          clear u3
          go_wp2
          go_roundw
          case rel => exact ⟨k + 1, by omega, by go_num, by rw [HCE.out, HS.out]; exact HV2.out, HB2.out⟩
          case measure => simp [intOf]; omega
    · have e : k = m := by omega
      subst e
      go_wp2
      go_ret
      exact ⟨_, rfl, HV.out, HBR.out⟩
end Go.Proofs.YtlblomlblibbdaaDoor
