/-
  CONTRACTS: lists of texts put together (the document's texts, plus).
-/
import Derived.Test.YtlllgelolmkapaaDoorCfSmall
import Derived.Laws.OwnMore
import Derived.Laws.AppendOwnNone
import Derived.Maps.AppendAt
import Derived.OwnWalk
import Derived.ProofKit
set_option linter.unusedVariables false
namespace Go.Proofs.YtlllgelolmkapaaDoor
set_option maxRecDepth 100000
open Go.RowKit Go.Deep Go.ChangeShapes Go.WideShapes

def cellsT (L : List ByteArray) : List Value := L.map .string
theorem own_shape {w : World} {base : Nat} {e : TypeId} {size : Nat} {v : Value} {n : Nat} {xs : List Value} (h : w.ownsRow base e size v n xs) : ∃ a c, v = .slice a n c := by
  rcases h with ⟨_, ⟨h1, h2⟩ | ⟨g, cap, cur, h1, _⟩⟩
  · exact ⟨none, 0, by rw [h1, h2]⟩
  · exact ⟨_, _, h1⟩
theorem own_scope {w : World} {base : Nat} {v : Value} {L : List ByteArray} (h : w.ownsRow base 9 1 v L.length (cellsT L)) : ScIs w v L := by
  rcases h with ⟨_, ⟨h1, h2⟩ | ⟨g, cap, cur, h1, h2, h3, h4, h5, h6, h7⟩⟩
  · have e : L = [] := List.length_eq_zero_iff.1 h2
    subst e
    exact ⟨none, 0, h1, Nat.le_refl _, Nat.zero_le _, fun h => absurd h (Nat.lt_irrefl 0)⟩
  · refine ⟨_, cap, h1, h4, h5, fun _ => ⟨g, 0, rfl, (Array.getElem?_eq_some_iff.1 h3).1, fun i hi => ?_⟩⟩
    rw [Nat.zero_add, Lib.cell_of_heap h3]
    have h8 : (cur.toList.take (L.length * 1))[i]? = some (.string L[i]) := by rw [h7]; simp [cellsT, hi]
    rw [List.getElem?_take_of_lt (by omega)] at h8
    simpa using h8
/-- lists in memory -/
def SeqsT (w : World) (b off : Nat) (LL : List (List ByteArray)) : Prop := ∀ i (h : i < LL.length), ∃ u, w.cell? ⟨b, off + i, none⟩ = some u ∧ ScIs w u LL[i]
theorem SeqsT.below {w w' : World} {b off : Nat} {LL : List (List ByteArray)} (h : SeqsT w b off LL) (hB : b < w.heap.size) (hb : Below w.heap.size w w') : SeqsT w' b off LL := fun i hi => by
  obtain ⟨u, h1, h2⟩ := h i hi
  exact ⟨u, (hb.cell (p := ⟨b, off + i, none⟩) hB).trans h1, h2.below hb⟩
theorem elem_in {w : World} (x : ByteArray) : ∀ j u, ([Value.string x] : List Value)[j]? = some u → (w.alloc (.cells #[.string x] 9)).cell? ((⟨w.heap.size, 0, none⟩ : Addr).add j) = some u := by
  intro j u hj
  have hj3 : j < 1 := (List.getElem?_eq_some_iff.1 hj).1
  match j, hj3 with
  | 0, _ => simp at hj; subst hj; simp [Addr.add]
theorem elem_one (x : ByteArray) : ∀ u ∈ ([Value.string x] : List Value), u.oneCell' = true := by
  intro u hu
  simp at hu
  rw [hu]; rfl
theorem infoStr : (Tryd.prog.info? 9).map (fun i => (i.zero, i.size, i.bytes)) = some (some (.string ByteArray.empty), 1, 16) := by kernel_rfl
theorem cellsT_take {L : List ByteArray} {q : Nat} (h : q < L.length) : cellsT (L.take (q + 1)) = cellsT (L.take q) ++ [Value.string L[q]] := by
  unfold cellsT
  rw [List.take_succ_eq_append_getElem h, List.map_append]
  rfl
theorem flat_take {LL : List (List ByteArray)} {k : Nat} (h : k < LL.length) : (LL.take (k + 1)).flatten = (LL.take k).flatten ++ LL[k] := by
  rw [List.take_succ_eq_append_getElem h, List.flatten_append]
  simp
theorem flat_mono (LL : List (List ByteArray)) (k : Nat) : (LL.take k).flatten.length ≤ LL.flatten.length := by
  have h : LL.flatten = (LL.take k).flatten ++ (LL.drop k).flatten := by rw [← List.flatten_append, List.take_append_drop]
  rw [h, List.length_append]
  omega
set_option maxHeartbeats 1600000 in
theorem texts_is (b off cap : Nat) (LL : List (List ByteArray)) (w : World) (hm : LL.length ≤ cap) (hcap : cap ≤ maxLen) (hb0 : b < w.heap.size) (hR : SeqsT w b off LL) (htot : LL.flatten.length ≤ 4294967299) :
    Calls Tryd.prog 40 #[.slice (some ⟨b, off, none⟩) LL.length cap] w fun e w' => ∃ v, e = .returned v ∧ w'.ownsRow w.heap.size 9 1 v LL.flatten.length (cellsT LL.flatten) ∧ Below w.heap.size w w' := by
  have hmm : LL.length ≤ 9223372036854775807 := by unfold maxLen at hcap; omega
  have HR : Hid (∀ W, Below w.heap.size w W → SeqsT W b off LL) := fun W hW => hR.below hb0 hW
  have HTOT : Hid (∀ k, (LL.take k).flatten.length ≤ 4294967299) := fun k => Nat.le_trans (flat_mono LL k) htot
  have HALL : Hid (LL.take LL.length = LL) := List.take_length
  obtain ⟨i0, hi0, hz0, hz1, hz2⟩ := info_parts infoStr
  clear hR hcap htot
  go_enter Tryd.func40, Tryd.ntmps40
  go_wp2
  go_loopw [3, 4] (fun v i wr => ∃ k : Nat, k ≤ LL.length ∧ i = .int .i64 k ∧ wr.ownsRow w.heap.size 9 1 v (LL.take k).flatten.length (cellsT (LL.take k).flatten) ∧ Below w.heap.size w wr) (fun _ i _ => LL.length - (intOf i).toNat)
  case atStart => exact ⟨0, Nat.zero_le _, rfl, World.ownsRow_nil _ _ _ _, Below.refl _ _⟩
  case round =>
    obtain ⟨k, hk, rfl, hv, hbr⟩ := hrel
    by_cases hlt : k < LL.length
    · have hki : (k : Int) < (LL.length : Int) := by omega
      have HFL : Hid ((LL.take (k + 1)).flatten = (LL.take k).flatten ++ LL[k]) := flat_take hlt
      have hsum := HTOT.out (k + 1)
      rw [HFL.out, List.length_append] at hsum
      have HAT : Hid (∀ W, Below w.heap.size w W → ∃ u, W.cell? ⟨b, off + k, none⟩ = some u ∧ ScIs W u LL[k]) := fun W hW => HR.out W hW k hlt
      generalize (LL.take k).flatten = P at *
      generalize LL[k] = L at *
      obtain ⟨va, vc, rfl⟩ := own_shape hv
      have HV : Hid (wr.ownsRow w.heap.size 9 1 (.slice va P.length vc) P.length (cellsT P)) := hv
      have HBR : Hid (Below w.heap.size w wr) := hbr
      clear hv hbr
      go_wp2
      go_loopw [3, 5] (fun v i wr => ∃ q : Nat, q ≤ L.length ∧ i = .int .i64 q ∧ wr.ownsRow w.heap.size 9 1 v (P.length + q) (cellsT P ++ cellsT (L.take q)) ∧ Below w.heap.size w wr) (fun _ i _ => L.length - (intOf i).toNat)
      case atStart => exact ⟨0, Nat.zero_le _, rfl, by rw [show cellsT (L.take 0) = [] from rfl, List.append_nil]; exact HV.out, HBR.out⟩
      case round =>
        obtain ⟨q, hq, rfl, hv, hbr⟩ := hrel
        obtain ⟨va2, vc2, rfl⟩ := own_shape hv
        have HV2 : Hid (wr.ownsRow w.heap.size 9 1 (.slice va2 (P.length + q) vc2) (P.length + q) (cellsT P ++ cellsT (L.take q))) := hv
        have HB2 : Hid (Below w.heap.size w wr) := hbr
        have hzr : w.heap.size ≤ wr.heap.size := hbr.size
        obtain ⟨u, e1, hu⟩ := HAT.out wr hbr
        have hbz : b < wr.heap.size := by omega
        obtain ⟨ua, ucap, rfl, u1, u2, u3⟩ := hu
        have hun : L.length ≤ 9223372036854775807 := by unfold maxLen at u2; omega
        clear hv hbr u2
        by_cases hqk : q < L.length
        · obtain ⟨ub, uoff, rfl, ub1, ub2⟩ := u3 (by omega)
          have hqi : (q : Int) < (L.length : Int) := by omega
          have g1 := ub2 q hqk
          have HCE : Hid (cellsT (L.take (q + 1)) = cellsT (L.take q) ++ [Value.string L[q]]) := cellsT_take hqk
          generalize L[q] = x at *
          clear ub2 u3
          go_wp2_with (first | (at_builtin; refine wpList_append_own _ rfl (.tmp 21) (.tmp 29) 53 rfl w.heap.size 9 i0 _ 1 16 Tryd.underlying53 hi0 hz0 hz1 hz2 rfl (by decide) _ _ _ rfl (HV2.out.alloc _) ⟨wr.heap.size, 0, none⟩ 1 1 [Value.string x] rfl rfl (elem_in x) (elem_one _) (by unfold maxLen; omega) (by omega) (by simp <;> omega) ?_; intro v6 w6 hown6 hgrow6 _; obtain ⟨va6, vc6, rfl⟩ := own_shape hown6; have HV6 : Hid (w6.ownsRow w.heap.size 9 1 (.slice va6 (P.length + q + 1) vc6) (P.length + q + 1) (cellsT P ++ cellsT (L.take q) ++ [Value.string x])) := hown6; have HB6 : Hid (Below w.heap.size w w6) := (HB2.out.alloc hzr _).grown hgrow6 (by simp <;> omega) (fun z hz => (HV2.out.lt z hz).1); clear hown6 hgrow6))
          go_roundw
          case rel => exact ⟨q + 1, by omega, by go_num, by rw [HCE.out, ← List.append_assoc, ← Nat.add_assoc]; exact HV6.out, HB6.out⟩
          case measure => simp [intOf]; omega
        · have e : q = L.length := by omega
          subst e
          have hv2 := HV2.out
          rw [List.take_length] at hv2
          have HV3 : Hid (wr.ownsRow w.heap.size 9 1 (.slice va2 (P.length + L.length) vc2) (P.length + L.length) (cellsT P ++ cellsT L)) := hv2
          clear u3 hv2 HV2
          go_wp2
          go_roundw
          case rel => exact ⟨k + 1, by omega, by go_num, by rw [HFL.out, List.length_append]; unfold cellsT; rw [List.map_append]; exact HV3.out, HB2.out⟩
          case measure => simp [intOf]; omega
    · have e : k = LL.length := by omega
      subst e
      rw [HALL.out] at hv
      obtain ⟨va, vc, rfl⟩ := own_shape hv
      have HV : Hid (wr.ownsRow w.heap.size 9 1 (.slice va LL.flatten.length vc) LL.flatten.length (cellsT LL.flatten)) := hv
      have HBR : Hid (Below w.heap.size w wr) := hbr
      clear hv hbr
      go_wp2
      go_ret
      exact ⟨_, rfl, HV.out, HBR.out⟩
set_option maxHeartbeats 800000 in
theorem plus_is (u v : Value) (S L : List ByteArray) (w : World) (hu : ScIs w u S) (hv : ScIs w v L) (hn : S.length + L.length ≤ 4294967299) :
    Calls Tryd.prog 29 #[u, v] w fun e w' => ∃ r, e = .returned r ∧ ScIs w' r (S ++ L) ∧ Below w.heap.size w w' := by
  have CT : Hid (∀ W : World, W = w.alloc (.cells #[u, v] 53) → Calls Tryd.prog 40 #[.slice (some ⟨w.heap.size, 0, none⟩) 2 2] W fun e w' => ∃ v, e = .returned v ∧ ScIs w' v (S ++ L) ∧ Below w.heap.size w w') := fun W hW => by
    subst hW
    have hb0 : Below w.heap.size w (w.alloc (.cells #[u, v] 53)) := (Below.refl _ _).alloc (Nat.le_refl _) _
    have h1 := texts_is w.heap.size 0 2 [S, L] (w.alloc (.cells #[u, v] 53)) (by simp) (by unfold maxLen; omega) (by simp) (fun i hi => by
      obtain rfl | rfl : i = 0 ∨ i = 1 := by simp at hi; omega
      · exact ⟨u, by simp, hu.below hb0⟩
      · exact ⟨v, by simp, hv.below hb0⟩) (by simp; omega)
    refine Calls.mono h1 ?_
    rintro e w' ⟨r, rfl, hown, hbel⟩
    have e : [S, L].flatten = S ++ L := by simp
    rw [e] at hown
    exact ⟨r, rfl, own_scope hown, hb0.trans (hbel.mono (by simp))⟩
  obtain ⟨a1, c1, rfl, _⟩ := hu
  obtain ⟨a2, c2, rfl, _⟩ := hv
  go_enter Tryd.func29, Tryd.ntmps29
  go_wp2_with (go_at_call 40; refine (CT.out _ rfl).mono ?_; rintro e w1 ⟨r, rfl, hs, hb⟩)
  have hr := hs
  obtain ⟨a3, c3, rfl, _⟩ := hr
  go_wp2
  go_ret
  exact ⟨_, rfl, hs, hb⟩
end Go.Proofs.YtlllgelolmkapaaDoor
