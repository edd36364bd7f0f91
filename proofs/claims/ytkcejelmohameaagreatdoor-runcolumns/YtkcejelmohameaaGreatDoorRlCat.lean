/-
  CONTRACTS: lists put together (slices.Concat, and the document's answers items, texts), at items and at texts.
-/
import Derived.Test.YtkcejelmohameaaGreatDoorRlSameI
import Derived.Test.YtkcejelmohameaaGreatDoorShelf
import Derived.OwnWalk
set_option linter.unusedVariables false
namespace Go.Proofs.YtkcejelmohameaaGreatDoor
set_option maxRecDepth 100000
open Go.RowKit Go.WideShapes

/-- some texts -/
structure Txts where
  len : Nat
  at_ : Nat → ByteArray
/-- append to a row of one's own, of a list wherever it lies -/
theorem wp_onto {P : Program} {o : Oper} {a : Act} {w : World} {K : Act → World → Prop} {Q : Exit → Act → World → Prop} (s x : Operand) (t : TypeId)
    (ho : o.op = .call { callee := .builtin .append, args := #[s, x], argTypes := #[t, t] })
    (base : Nat) (e : TypeId) (i : TypeInfo) (z : Value) (size bytes : Nat) (ht : P.underlying t = some (.slice e)) (hi : P.info? e = some i) (hz : i.zero = some z)
    (hsize : i.size = size) (hby : i.bytes = bytes) (hzs : z.cells.size = size) (hsz : 0 < size) (v : Value) (n : Nat) (xs : List Value) (hs : a.eval s = v) (hown : w.ownsRow base e size v n xs)
    (u : Value) (k : Nat) (news : List Value) (hx : a.eval x = u) (hl : ListIs w u k size news) (hm : n + k ≤ maxLen) (hb : (n + k) * bytes ≤ 140737488355328) (hbase : base ≤ w.heap.size)
    (h : ∀ v' w', w'.ownsRow base e size v' (n + k) (xs ++ news) → w.grownBy w' v.ownBlock → K (a.put o.dst v') w') : o.wp P a w K Q := by
  obtain ⟨h1, h2, ⟨rfl, rfl⟩ | ⟨ad, c, rfl, h3⟩⟩ := hl
  · have hn : news = [] := List.eq_nil_of_length_eq_zero (by simpa using h1)
    subst hn
    have hrun := run_append_owned_none (P := P) (w := w) base t o.type e i size ht hi v n xs hown
    unfold Oper.wp
    simp [execOp, ho, resolve, invoke, builtin, hs, hx, hrun, Result.andThen]
    exact h _ _ (by rw [List.append_nil]; exact hown) ⟨rfl, rfl, rfl, Nat.le_refl _, fun _ _ _ => rfl⟩
  · exact wp_append_own w s x t ho base e i z size bytes ht hi hz hsize hby hzs hsz v n xs hs hown ad k c news hx h1 h3 h2 hm hb hbase (fun v' w' q1 q2 _ => h v' w' q1 q2)
theorem own_shape {w : World} {base : Nat} {e : TypeId} {size : Nat} {v : Value} {n : Nat} {xs : List Value} (h : w.ownsRow base e size v n xs) : ∃ a c, v = .slice a n c := by
  obtain ⟨_, ⟨rfl, rfl⟩ | ⟨b, cap, cur, rfl, _⟩⟩ := h
  · exact ⟨_, _, rfl⟩
  · exact ⟨_, _, rfl⟩
theorem zero_row {w : World} (e : TypeId) (size G : Nat) (cur : Array Value) (hs : cur.size = G * size) (hG : G ≤ maxLen) : (w.drew.alloc (.cells cur e)).ownsRow w.heap.size e size (.slice (some ⟨w.heap.size, 0, none⟩) 0 G) 0 [] :=
  ⟨by simp, .inr ⟨w.heap.size, G, cur, rfl, Nat.le_refl _, heap_alloc_new w.drew _, Nat.zero_le _, hG, hs, by simp⟩⟩

def appI (a b : Row) : Row := ⟨a.len + b.len, fun i => if i < a.len then a.at_ i else b.at_ (i - a.len)⟩
def catI (R : Nat → Row) : Nat → Row
  | 0 => ⟨0, fun _ => ⟨0, 0, ⟨#[]⟩⟩⟩
  | m + 1 => appI (catI R m) (R m)
theorem catI_mono (R : Nat → Row) {k m : Nat} (h : k ≤ m) : (catI R k).len ≤ (catI R m).len := by
  induction m with
  | zero => obtain rfl : k = 0 := by omega
            exact Nat.le_refl _
  | succ m ih =>
    by_cases e : k = m + 1
    · rw [e]; exact Nat.le_refl _
    · exact Nat.le_trans (ih (by omega)) (Nat.le_add_right _ _)
theorem cells_appI (a b : Row) : itCells (appI a b).at_ (appI a b).len = itCells a.at_ a.len ++ itCells b.at_ b.len := by
  apply List.ext_getElem?
  intro j
  have hl : (appI a b).len = a.len + b.len := rfl
  by_cases h1 : j < a.len * 3
  · rw [List.getElem?_append_left (by rw [itCells_len]; omega), itCells_at _ _ _ (by omega), itCells_at _ _ _ h1]
    rw [show (appI a b).at_ (j / 3) = a.at_ (j / 3) from if_pos (by omega)]
  · rw [List.getElem?_append_right (by rw [itCells_len]; omega), itCells_len]
    by_cases h2 : j < (appI a b).len * 3
    · rw [itCells_at _ _ _ h2, itCells_at _ _ _ (by omega)]
      rw [show (appI a b).at_ (j / 3) = b.at_ (j / 3 - a.len) from if_neg (by omega), show (j - a.len * 3) / 3 = j / 3 - a.len by omega, show (j - a.len * 3) % 3 = j % 3 by omega]
    · rw [List.getElem?_eq_none (by rw [itCells_len]; omega), List.getElem?_eq_none (by rw [itCells_len]; omega)]
/-- lists of them in memory -/
def SeqsI (w : World) (b off m : Nat) (R : Nat → Row) : Prop := ∀ i, i < m → ∃ u, w.cell? ⟨b, off + i, none⟩ = some u ∧ ItsIs w u (R i).len (R i).at_
theorem SeqsI.below {w w' : World} {b off m B : Nat} {R : Nat → Row} (h : SeqsI w b off m R) (hB : b < w.heap.size) (hb : Below w.heap.size w w') : SeqsI w' b off m R := fun i hi => by
  obtain ⟨u, h1, h2⟩ := h i hi
  exact ⟨u, (hb.cell (p := ⟨b, off + i, none⟩) hB).trans h1, h2.below hb⟩
theorem growI (n : Nat) (w : World) (hb : n * 32 ≤ 140737488351232) :
    Calls Tryz.prog 190 #[.slice none 0 0, .int .i64 n] w fun e w' => ∃ v, e = .returned v ∧ w'.ownsRow w.heap.size 67 3 v 0 [] ∧ Below w.heap.size w w' := by
  rcases Nat.eq_zero_or_pos n with hz | hz
  · subst hz
    refine (Any8.slices_Grow_room Tryz.growItems none 0 0 0 w (Nat.le_refl _) (by omega) (by omega) (Nat.le_refl _)).mono ?_
    rintro e w' ⟨rfl, rfl⟩
    exact ⟨_, rfl, World.ownsRow_nil _ _ _ _, Below.refl _ _⟩
  · obtain ⟨i0, hi0, hz0, hz1, hz2⟩ := info_parts infoItem
    refine (Any8.slices_Grow_grow Tryz.growItems i0 _ hi0 hz0 (by rw [hz1]; decide) none 0 0 n [] w (Nat.le_refl _) (by omega) (by rw [hz2, Nat.zero_add]; omega) (by omega) (by simp) (fun _ => rfl) (fun a ha => nomatch ha)).mono ?_
    rintro e w' ⟨rfl, rfl⟩
    rw [show Tryz.growItems_ren.t 25 = 67 from rfl]
    have hG := grownCap_le_maxLen w (0 + n) 0 67 (by unfold maxLen; omega)
    have hGe := grownCap_ge w (0 + n) 0 67
    refine ⟨_, rfl, ?_, (Below.refl _ _).drew.alloc (Nat.le_refl _) _⟩
    refine zero_row 67 3 _ _ ?_ hG
    simp only [Array.size_append, size_zeroCells]
    have hc : (Value.cells (.agg #[.int .i64 0, .int .i64 0, .string ByteArray.empty])).size = 3 := rfl
    rw [hc]
    generalize grownCap w (0 + n) 0 67 = G at hGe ⊢
    simp
    omega
set_option maxHeartbeats 1600000 in
theorem concatI_some (b off m cap : Nat) (R : Nat → Row) (w : World) (hm : m ≤ cap) (hcap : cap ≤ maxLen) (hb0 : b < w.heap.size) (hR : SeqsI w b off m R) (htot : (catI R m).len * 32 ≤ 140737488351232) :
    Calls Tryz.prog 142 #[.slice (some ⟨b, off, none⟩) m cap] w fun e w' => ∃ v, e = .returned v ∧ w'.ownsRow w.heap.size 67 3 v (catI R m).len (itCells (catI R m).at_ (catI R m).len) ∧ Below w.heap.size w w' := by
  have hmm : m ≤ 9223372036854775807 := by unfold maxLen at hcap; omega
  have HR : Hid (∀ W, Below w.heap.size w W → SeqsI W b off m R) := fun W hW => hR.below (B := 0) hb0 hW
  have HMO : Hid (∀ k, k ≤ m → (catI R k).len ≤ (catI R m).len) := fun k hk => catI_mono R hk
  have HSU : Hid (∀ k, (catI R (k + 1)).len = (catI R k).len + (R k).len) := fun k => rfl
  have HCE : Hid (∀ k, itCells (catI R (k + 1)).at_ (catI R (k + 1)).len = itCells (catI R k).at_ (catI R k).len ++ itCells (R k).at_ (R k).len) := fun k => cells_appI (catI R k) (R k)
  have CG : Hid (Calls Tryz.prog 190 #[.slice none 0 0, .int .i64 ((catI R m).len : Int)] w fun e w' => ∃ v, e = .returned v ∧ w'.ownsRow w.heap.size 67 3 v 0 [] ∧ Below w.heap.size w w') := growI _ w htot
  obtain ⟨i0, hi0, hz0, hz1, hz2⟩ := info_parts infoItem
  clear hR hcap
  go_enter Tryz.func142, Tryz.ntmps142
  go_wp2
  go_loop [3, 11] (fun s i => ∃ k : Nat, k ≤ m ∧ i = .int .i64 k ∧ s = .int .i64 ((catI R k).len : Int)) (fun _ i => m - (intOf i).toNat)
  case atStart => exact ⟨0, Nat.zero_le _, rfl, rfl⟩
  case round =>
    obtain ⟨k, hk, rfl, rfl⟩ := hrel
    by_cases hlt : k < m
    · obtain ⟨u, e1, hu⟩ := HR.out w (Below.refl _ _) k hlt
      obtain ⟨ua, ucap, rfl, _⟩ := hu
      have hs := HSU.out k
      have h1 := HMO.out (k + 1) (by omega)
      have HS : Hid ((catI R (k + 1)).len = (catI R k).len + (R k).len) := hs
      have hsum : (catI R k).len + (R k).len ≤ (catI R m).len := by omega
      clear hs h1
      go_wp2
      go_round
      case rel => exact ⟨k + 1, by omega, by go_num, congrArg (Value.int .i64) (by rw [HS.out]; omega)⟩
      case measure => simp [intOf]; omega
    · have e : k = m := by omega
      subst e
      go_wp2_with (first | (go_at_call 190; refine CG.out.mono ?_; rintro e w1 ⟨v1, rfl, hv1, hb1⟩; obtain ⟨ga, gc, rfl⟩ := own_shape hv1; have HV1 : Hid (w1.ownsRow w.heap.size 67 3 (.slice ga 0 gc) 0 []) := hv1; have HB1 : Hid (Below w.heap.size w w1) := hb1; clear hv1 hb1))
      go_loopw [6, 27] (fun v i wr => ∃ j : Nat, j ≤ k ∧ i = .int .i64 j ∧ wr.ownsRow w.heap.size 67 3 v (catI R j).len (itCells (catI R j).at_ (catI R j).len) ∧ Below w.heap.size w wr) (fun _ i _ => k - (intOf i).toNat)
      case atStart => exact ⟨0, Nat.zero_le _, rfl, HV1.out, HB1.out⟩
      case round =>
        obtain ⟨j, hj, rfl, hv, hbr⟩ := hrel
        obtain ⟨va, vc, rfl⟩ := own_shape hv
        have HV : Hid (wr.ownsRow w.heap.size 67 3 (.slice va (catI R j).len vc) (catI R j).len (itCells (catI R j).at_ (catI R j).len)) := hv
        have HBR : Hid (Below w.heap.size w wr) := hbr
        have hzr : w.heap.size ≤ wr.heap.size := hbr.size
        by_cases hjl : j < k
        · obtain ⟨u, e1, hu⟩ := HR.out wr hbr j hjl
          have hbz : b < wr.heap.size := by omega
          have HU : Hid (ItsIs wr u (R j).len (R j).at_) := hu
          obtain ⟨ua, ucap, rfl, _⟩ := hu
          have h1 := HMO.out (j + 1) (by omega)
          have hs := HSU.out j
          have hsum : (catI R j).len + (R j).len ≤ (catI R k).len := by omega
          have HS : Hid ((catI R (j + 1)).len = (catI R j).len + (R j).len) := hs
          clear hs h1 hv hbr
          go_wp2_with (first | (at_builtin; refine wpList_plain rfl (fun K hK => wp_onto (.tmp 31) (.tmp 32) 94 rfl w.heap.size 67 i0 _ 3 32 Tryz.underlying94 hi0 hz0 hz1 hz2 rfl (by decide) (.slice va (catI R j).len vc) (catI R j).len (itCells (catI R j).at_ (catI R j).len) rfl HV.out (.slice ua (R j).len ucap) (R j).len (itCells (R j).at_ (R j).len) rfl (its_list HU.out) (by unfold maxLen; omega) (by omega) hzr (fun v' w' h1 h2 => hK _ _ ?_)); obtain ⟨va2, vc2, rfl⟩ := own_shape h1; have HV2 : Hid (w'.ownsRow w.heap.size 67 3 (.slice va2 ((catI R j).len + (R j).len) vc2) ((catI R j).len + (R j).len) (itCells (catI R j).at_ (catI R j).len ++ itCells (R j).at_ (R j).len)) := h1; have HB2 : Hid (Below w.heap.size w w') := HBR.out.grown h2 hzr (fun q hq => (HV.out.lt q hq).1); clear h1 h2 hK))
          go_roundw
          case rel => exact ⟨j + 1, by omega, by go_num, by rw [HCE.out, HS.out]; exact HV2.out, HB2.out⟩
          case measure => simp [intOf]; omega
        · have e : j = k := by omega
          subst e
          clear hv hbr
          go_wp2
          go_ret
          exact ⟨_, rfl, HV.out, HBR.out⟩

def appS (a b : Txts) : Txts := ⟨a.len + b.len, fun i => if i < a.len then a.at_ i else b.at_ (i - a.len)⟩
def catS (R : Nat → Txts) : Nat → Txts
  | 0 => ⟨0, fun _ => ⟨#[]⟩⟩
  | m + 1 => appS (catS R m) (R m)
theorem catS_mono (R : Nat → Txts) {k m : Nat} (h : k ≤ m) : (catS R k).len ≤ (catS R m).len := by
  induction m with
  | zero => obtain rfl : k = 0 := by omega
            exact Nat.le_refl _
  | succ m ih =>
    by_cases e : k = m + 1
    · rw [e]; exact Nat.le_refl _
    · exact Nat.le_trans (ih (by omega)) (Nat.le_add_right _ _)
theorem cells_appS (a b : Txts) : strCells (appS a b).at_ (appS a b).len = strCells a.at_ a.len ++ strCells b.at_ b.len := by
  apply List.ext_getElem?
  intro j
  have hl : (appS a b).len = a.len + b.len := rfl
  by_cases h1 : j < a.len * 1
  · rw [List.getElem?_append_left (by rw [strCells_len]; omega), strCells_at _ _ _ (by omega), strCells_at _ _ _ (by omega)]
    rw [show (appS a b).at_ j = a.at_ j from if_pos (by omega)]
  · rw [List.getElem?_append_right (by rw [strCells_len]; omega), strCells_len]
    by_cases h2 : j < (appS a b).len * 1
    · rw [strCells_at _ _ _ (by omega), strCells_at _ _ _ (by omega)]
      rw [show (appS a b).at_ j = b.at_ (j - a.len) from if_neg (by omega), Nat.mul_one]
    · rw [List.getElem?_eq_none (by rw [strCells_len]; omega), List.getElem?_eq_none (by rw [strCells_len]; omega)]
/-- lists of them in memory -/
def SeqsS (w : World) (b off m : Nat) (R : Nat → Txts) : Prop := ∀ i, i < m → ∃ u, w.cell? ⟨b, off + i, none⟩ = some u ∧ StrsIs w u (R i).len (R i).at_
theorem SeqsS.below {w w' : World} {b off m B : Nat} {R : Nat → Txts} (h : SeqsS w b off m R) (hB : b < w.heap.size) (hb : Below w.heap.size w w') : SeqsS w' b off m R := fun i hi => by
  obtain ⟨u, h1, h2⟩ := h i hi
  exact ⟨u, (hb.cell (p := ⟨b, off + i, none⟩) hB).trans h1, h2.below hb⟩
theorem growS (n : Nat) (w : World) (hb : n * 16 ≤ 140737488351232) :
    Calls Tryz.prog 132 #[.slice none 0 0, .int .i64 n] w fun e w' => ∃ v, e = .returned v ∧ w'.ownsRow w.heap.size 9 1 v 0 [] ∧ Below w.heap.size w w' := by
  rcases Nat.eq_zero_or_pos n with hz | hz
  · subst hz
    refine (Any8.slices_Grow_room Tryz.growStrs none 0 0 0 w (Nat.le_refl _) (by omega) (by omega) (Nat.le_refl _)).mono ?_
    rintro e w' ⟨rfl, rfl⟩
    exact ⟨_, rfl, World.ownsRow_nil _ _ _ _, Below.refl _ _⟩
  · obtain ⟨i0, hi0, hz0, hz1, hz2⟩ := info_parts infoStr
    refine (Any8.slices_Grow_grow Tryz.growStrs i0 _ hi0 hz0 (by rw [hz1]; decide) none 0 0 n [] w (Nat.le_refl _) (by omega) (by rw [hz2, Nat.zero_add]; omega) (by omega) (by simp) (fun _ => rfl) (fun a ha => nomatch ha)).mono ?_
    rintro e w' ⟨rfl, rfl⟩
    rw [show Tryz.growStrs_ren.t 25 = 9 from rfl]
    have hG := grownCap_le_maxLen w (0 + n) 0 9 (by unfold maxLen; omega)
    have hGe := grownCap_ge w (0 + n) 0 9
    refine ⟨_, rfl, ?_, (Below.refl _ _).drew.alloc (Nat.le_refl _) _⟩
    refine zero_row 9 1 _ _ ?_ hG
    simp only [Array.size_append, size_zeroCells]
    have hc : (Value.cells (.string ByteArray.empty)).size = 1 := rfl
    rw [hc]
    generalize grownCap w (0 + n) 0 9 = G at hGe ⊢
    simp
    omega
set_option maxHeartbeats 1600000 in
theorem concatS_some (b off m cap : Nat) (R : Nat → Txts) (w : World) (hm : m ≤ cap) (hcap : cap ≤ maxLen) (hb0 : b < w.heap.size) (hR : SeqsS w b off m R) (htot : (catS R m).len * 16 ≤ 140737488351232) :
    Calls Tryz.prog 98 #[.slice (some ⟨b, off, none⟩) m cap] w fun e w' => ∃ v, e = .returned v ∧ w'.ownsRow w.heap.size 9 1 v (catS R m).len (strCells (catS R m).at_ (catS R m).len) ∧ Below w.heap.size w w' := by
  have hmm : m ≤ 9223372036854775807 := by unfold maxLen at hcap; omega
  have HR : Hid (∀ W, Below w.heap.size w W → SeqsS W b off m R) := fun W hW => hR.below (B := 0) hb0 hW
  have HMO : Hid (∀ k, k ≤ m → (catS R k).len ≤ (catS R m).len) := fun k hk => catS_mono R hk
  have HSU : Hid (∀ k, (catS R (k + 1)).len = (catS R k).len + (R k).len) := fun k => rfl
  have HCE : Hid (∀ k, strCells (catS R (k + 1)).at_ (catS R (k + 1)).len = strCells (catS R k).at_ (catS R k).len ++ strCells (R k).at_ (R k).len) := fun k => cells_appS (catS R k) (R k)
  have CG : Hid (Calls Tryz.prog 132 #[.slice none 0 0, .int .i64 ((catS R m).len : Int)] w fun e w' => ∃ v, e = .returned v ∧ w'.ownsRow w.heap.size 9 1 v 0 [] ∧ Below w.heap.size w w') := growS _ w htot
  obtain ⟨i0, hi0, hz0, hz1, hz2⟩ := info_parts infoStr
  clear hR hcap
  go_enter Tryz.func98, Tryz.ntmps98
  go_wp2
  go_loop [3, 11] (fun s i => ∃ k : Nat, k ≤ m ∧ i = .int .i64 k ∧ s = .int .i64 ((catS R k).len : Int)) (fun _ i => m - (intOf i).toNat)
  case atStart => exact ⟨0, Nat.zero_le _, rfl, rfl⟩
  case round =>
    obtain ⟨k, hk, rfl, rfl⟩ := hrel
    by_cases hlt : k < m
    · obtain ⟨u, e1, hu⟩ := HR.out w (Below.refl _ _) k hlt
      obtain ⟨ua, ucap, rfl, _⟩ := hu
      have hs := HSU.out k
      have h1 := HMO.out (k + 1) (by omega)
      have HS : Hid ((catS R (k + 1)).len = (catS R k).len + (R k).len) := hs
      have hsum : (catS R k).len + (R k).len ≤ (catS R m).len := by omega
      clear hs h1
      go_wp2
      go_round
      case rel => exact ⟨k + 1, by omega, by go_num, congrArg (Value.int .i64) (by rw [HS.out]; omega)⟩
      case measure => simp [intOf]; omega
    · have e : k = m := by omega
      subst e
      go_wp2_with (first | (go_at_call 132; refine CG.out.mono ?_; rintro e w1 ⟨v1, rfl, hv1, hb1⟩; obtain ⟨ga, gc, rfl⟩ := own_shape hv1; have HV1 : Hid (w1.ownsRow w.heap.size 9 1 (.slice ga 0 gc) 0 []) := hv1; have HB1 : Hid (Below w.heap.size w w1) := hb1; clear hv1 hb1))
      go_loopw [6, 27] (fun v i wr => ∃ j : Nat, j ≤ k ∧ i = .int .i64 j ∧ wr.ownsRow w.heap.size 9 1 v (catS R j).len (strCells (catS R j).at_ (catS R j).len) ∧ Below w.heap.size w wr) (fun _ i _ => k - (intOf i).toNat)
      case atStart => exact ⟨0, Nat.zero_le _, rfl, HV1.out, HB1.out⟩
      case round =>
        obtain ⟨j, hj, rfl, hv, hbr⟩ := hrel
        obtain ⟨va, vc, rfl⟩ := own_shape hv
        have HV : Hid (wr.ownsRow w.heap.size 9 1 (.slice va (catS R j).len vc) (catS R j).len (strCells (catS R j).at_ (catS R j).len)) := hv
        have HBR : Hid (Below w.heap.size w wr) := hbr
        have hzr : w.heap.size ≤ wr.heap.size := hbr.size
        by_cases hjl : j < k
        · obtain ⟨u, e1, hu⟩ := HR.out wr hbr j hjl
          have hbz : b < wr.heap.size := by omega
          have HU : Hid (StrsIs wr u (R j).len (R j).at_) := hu
          obtain ⟨ua, ucap, rfl, _⟩ := hu
          have h1 := HMO.out (j + 1) (by omega)
          have hs := HSU.out j
          have hsum : (catS R j).len + (R j).len ≤ (catS R k).len := by omega
          have HS : Hid ((catS R (j + 1)).len = (catS R j).len + (R j).len) := hs
          clear hs h1 hv hbr
          go_wp2_with (first | (at_builtin; refine wpList_plain rfl (fun K hK => wp_onto (.tmp 31) (.tmp 32) 35 rfl w.heap.size 9 i0 _ 1 16 Tryz.underlying35 hi0 hz0 hz1 hz2 rfl (by decide) (.slice va (catS R j).len vc) (catS R j).len (strCells (catS R j).at_ (catS R j).len) rfl HV.out (.slice ua (R j).len ucap) (R j).len (strCells (R j).at_ (R j).len) rfl (strs_cells HU.out) (by unfold maxLen; omega) (by omega) hzr (fun v' w' h1 h2 => hK _ _ ?_)); obtain ⟨va2, vc2, rfl⟩ := own_shape h1; have HV2 : Hid (w'.ownsRow w.heap.size 9 1 (.slice va2 ((catS R j).len + (R j).len) vc2) ((catS R j).len + (R j).len) (strCells (catS R j).at_ (catS R j).len ++ strCells (R j).at_ (R j).len)) := h1; have HB2 : Hid (Below w.heap.size w w') := HBR.out.grown h2 hzr (fun q hq => (HV.out.lt q hq).1); clear h1 h2 hK))
          go_roundw
          case rel => exact ⟨j + 1, by omega, by go_num, by rw [HCE.out, HS.out]; exact HV2.out, HB2.out⟩
          case measure => simp [intOf]; omega
        · have e : j = k := by omega
          subst e
          clear hv hbr
          go_wp2
          go_ret
          exact ⟨_, rfl, HV.out, HBR.out⟩
end Go.Proofs.YtkcejelmohameaaGreatDoor
