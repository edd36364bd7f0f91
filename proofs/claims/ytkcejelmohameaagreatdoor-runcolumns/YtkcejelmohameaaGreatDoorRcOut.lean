/-
  THE OUTLINE OF AN APPLY, AND OF A BUILD.
-/
import Derived.Test.YtkcejelmohameaaGreatDoorRcOp
import Derived.Test.YtkcejelmohameaaGreatDoorRlCMap
import Derived.Deep.QuietTactic
import Derived.BigQuiet
import Derived.Deep.RegionHeld3
set_option linter.unusedVariables false
namespace Go.Proofs.YtkcejelmohameaaGreatDoor
set_option maxRecDepth 100000
open Go.RowKit Go.WideShapes

/-- a list of texts in a block of its own -/
theorem strs_blk {w : World} {g n : Nat} {cs : Array Value} {C : Nat → ByteArray} (h : w.heap[g]? = some (.cells cs 9)) (hn : cs.size = n) (h0 : 0 < n) (hm : n ≤ maxLen) (hC : ∀ i (hi : i < cs.size), cs[i] = .string (C i)) : StrsIs w (.slice (some ⟨g, 0, none⟩) n n) n C :=
  ⟨some ⟨g, 0, none⟩, n, rfl, Nat.le_refl _, hm, (fun h => nomatch h), fun _ => ⟨g, 0, rfl, kLt h, fun i hi => by rw [Nat.zero_add, (kCell h (j := i) (by omega)).1, hC]⟩⟩
theorem strs1 {w : World} {g : Nat} {x : ByteArray} (h : w.heap[g]? = some (.cells #[.string x] 9)) : StrsIs w (.slice (some ⟨g, 0, none⟩) 1 1) (onC x).len (onC x).at_ := strs_blk h rfl (by decide) (by unfold maxLen; omega) fun i hi => by
  have : i = 0 := by simp at hi; omega
  subst this; rfl
theorem strs_it {w : World} {g : Nat} (h : w.heap[g]? = some (.cells #[.string ⟨#[105, 116, 101, 114]⟩, .string ⟨#[105, 116, 101, 109]⟩] 9)) : StrsIs w (.slice (some ⟨g, 0, none⟩) 2 2) itC.len itC.at_ := strs_blk h rfl (by decide) (by unfold maxLen; omega) fun i hi => by
  have : i = 0 ∨ i = 1 := by simp at hi; omega
  rcases this with rfl | rfl <;> rfl
theorem strs_pi {w : World} {g : Nat} (h : w.heap[g]? = some (.cells #[.string ⟨#[112, 111, 115]⟩, .string ⟨#[105, 116, 101, 109]⟩] 9)) : StrsIs w (.slice (some ⟨g, 0, none⟩) 2 2) piC.len piC.at_ := strs_blk h rfl (by decide) (by unfold maxLen; omega) fun i hi => by
  have : i = 0 ∨ i = 1 := by simp at hi; omega
  rcases this with rfl | rfl <;> rfl
theorem strs_ipi {w : World} {g : Nat} (h : w.heap[g]? = some (.cells #[.string ⟨#[105, 116, 101, 114]⟩, .string ⟨#[112, 111, 115]⟩, .string ⟨#[105, 116, 101, 109]⟩] 9)) : StrsIs w (.slice (some ⟨g, 0, none⟩) 3 3) ipiC.len ipiC.at_ := strs_blk h rfl (by decide) (by unfold maxLen; omega) fun i hi => by
  have : i = 0 ∨ i = 1 ∨ i = 2 := by simp at hi; omega
  rcases this with rfl | rfl | rfl <;> rfl
theorem itC_fine : StrsFine itC.len itC.at_ := ⟨by decide, fun i _ => by show (if i = 0 then iterS else itemS).size ≤ _; unfold maxLen; split <;> decide⟩
theorem itC_may : colsF itC.at_ itC.len = 0 := by decide +kernel
theorem app_fine {a : Txts} {s : ByteArray} (ha : colsF a.at_ a.len = 0) (hfa : StrsFine a.len a.at_) (hs : s.size ≤ maxLen) : StrsFine (appS a (onC s)).len (appS a (onC s)).at_ := by
  have := colsF_le ha
  refine ⟨by show (a.len + 1) * 16 ≤ _; omega, fun i hi => ?_⟩
  show (if i < a.len then a.at_ i else s).size ≤ _
  by_cases e : i < a.len
  · rw [if_pos e]; exact hfa.2 i e
  · rw [if_neg e]; exact hs
set_option maxHeartbeats 3200000 in
theorem outlineApply_is (a k : Txts) (ca qa : Option Addr) (ck ql qk args : Nat) (new : ByteArray) (kv : Value) (w : World) (hc : StrsIs w (.slice ca a.len ck) a.len a.at_) (ha : colsF a.at_ a.len = 0) (hfa : StrsFine a.len a.at_) (hk : StrsIs w kv k.len k.at_) (hargs : args ≤ 3) (hnew : new.size ≤ maxLen) (hT : Tabs w) :
    Calls Tryz.prog 68 #[.agg #[.slice ca a.len ck, .slice qa ql qk], .string new, .int .i64 (args : Int), kv] w fun e w' => OutT (if (decide (k.len = args) && allT a k) = true then colsF (appS a (onC new)).at_ (appS a (onC new)).len else 9) (appS a (onC new)) w e w' := by
  have H8 := colsF_le ha
  have CC1 : Hid (∀ W bb u, Below w.heap.size w W → W.cell? ⟨bb, 0, none⟩ = some (.slice ca a.len ck) → W.cell? ⟨bb, 1, none⟩ = some u → StrsIs W u 1 (onC new).at_ → bb < W.heap.size → Calls Tryz.prog 98 #[.slice (some ⟨bb, 0, none⟩) 2 2] W fun e w' => ∃ a2 cap, e = .returned (.slice a2 (a.len + 1) cap) ∧ StrsIs w' (.slice a2 (a.len + 1) cap) (appS a (onC new)).len (appS a (onC new)).at_ ∧ Below W.heap.size W w') := fun W bb u hW k0 k1 k2 hbb => by
    refine Calls.mono (concatS_two bb 0 2 _ _ a (onC new) W (Nat.le_refl _) (by unfold maxLen; omega) hbb k0 k1 (hc.below hW) k2 (by show (a.len + 1) * 16 ≤ _; omega)) ?_
    rintro e w' ⟨u, rfl, h1, ⟨a, cap, rfl⟩, h2⟩
    exact ⟨a, cap, rfl, h1.is, h2⟩
  have CK : Hid (∀ W v, Below w.heap.size w W → StrsIs W v (appS a (onC new)).len (appS a (onC new)).at_ → Calls Tryz.prog 67 #[v] W fun e w' => OutT (colsF (appS a (onC new)).at_ (appS a (onC new)).len) (appS a (onC new)) W e w') := fun W v hW hs => columnsAny_is v _ _ W hs (app_fine ha hfa hnew) fun W' hW' => Utf8Tabs_below hT (hW.trans (hW'.mono hW.size))
  have CP : Hid (k.len = args → ∀ W, Below w.heap.size w W → Calls Tryz.prog 11 #[.slice ca a.len ck, kv] W fun e w' => (∃ u, e = .returned (.tuple #[u, .int .i64 (if foundB a.at_ a.len k.at_ k.len = true then 0 else 9)])) ∧ Below W.heap.size W w') := fun hl W hW => placesAny_is _ kv a.len k.len a.at_ k.at_ W (hc.below hW) (hk.below hW) (by omega)
  have hsh : ∃ ka kc, kv = .slice ka k.len kc := by obtain ⟨ka, kc, h, _⟩ := hk; exact ⟨ka, kc, h⟩
  obtain ⟨ka, kc, rfl⟩ := hsh
  clear hT hc hfa ha hnew
  by_cases hl : k.len = args
  rotate_left
  · rw [if_neg (by rw [decide_eq_false hl]; simp)]
    have hlb : ((k.len : Int) == (args : Int)) = false := by rw [beq_eq_false_iff_ne]; omega
    clear CP CC1 CK hk
    generalize k.len = kl at *
    clear hl
    go_enter Tryz.func68, Tryz.ntmps68
    go_wp2
    refine bodyPost_ret (v := .tuple #[.agg #[.slice none 0 0, .slice none 0 0], .int .i64 9]) (by simp [results, Tryz.results68, go_sem]) rfl (OutT.bad (by decide) ?_)
    (focus (repeat (first | exact Below.refl _ _ | exact Hid.out (by assumption) | refine Below.setCell ?_ (by first | omega | (simp <;> omega)) _ | refine Below.alloc ?_ (by first | omega | (simp <;> omega)) _)))
  · have CP1 := hidK (CP.out hl)
    clear CP
    cases hfo : foundB a.at_ a.len k.at_ k.len with
    | false =>
      rw [if_neg (by unfold allT; rw [hfo]; simp)]
      rw [hfo] at CP1
      rw [← hl]
      clear CC1 CK hfo hk hl
      generalize k.len = kl at *
      go_enter Tryz.func68, Tryz.ntmps68
      go_wp2_with (go_at_call 11; refine (CP1.out _ ?_).mono ?_; (· (focus (repeat (first | exact Below.refl _ _ | exact Hid.out (by assumption) | refine Below.setCell ?_ (by first | omega | (simp <;> omega)) _ | refine Below.alloc ?_ (by first | omega | (simp <;> omega)) _)))); rintro e w1 ⟨⟨u, rfl⟩, hb1⟩; have HB1 : Hid (Below w.heap.size w w1) := Below.trans (by (focus (repeat (first | exact Below.refl _ _ | exact Hid.out (by assumption) | refine Below.setCell ?_ (by first | omega | (simp <;> omega)) _ | refine Below.alloc ?_ (by first | omega | (simp <;> omega)) _)))) (hb1.mono (by first | omega | (simp <;> omega))); have HR1 : Hid (w1.heap[w.heap.size + 1]? = some (.cells #[.slice none 0 0, .slice none 0 0] 40)) := (hb1.block _ (by first | omega | (simp <;> omega))).trans (kNew (by simp)); obtain ⟨q0, q1, q2, q3, q4⟩ := k2 HR1.out; clear hb1 CP1)
      refine bodyPost_ret (v := .tuple #[.agg #[.slice none 0 0, .slice none 0 0], .int .i64 9]) (by simp [results, Tryz.results68, go_sem, q0, q1]) rfl (OutT.bad (by decide) ?_)
      (focus (repeat (first | exact Below.refl _ _ | exact Hid.out (by assumption) | refine Below.setCell ?_ (by first | omega | (simp <;> omega)) _ | refine Below.alloc ?_ (by first | omega | (simp <;> omega)) _)))
    | true =>
      rw [if_pos (by unfold allT; rw [hfo, decide_eq_true hl]; rfl)]
      rw [hfo] at CP1
      rw [← hl]
      clear hfo hk hl
      generalize k.len = kl at *
      generalize hF : colsF (appS a (onC new)).at_ (appS a (onC new)).len = F at *
      generalize hT : appS a (onC new) = T at *
      clear hF hT
      generalize a.len = al at *
      go_enter Tryz.func68, Tryz.ntmps68
      go_wp2_with (first
        | (go_at_call 11; refine (CP1.out _ ?_).mono ?_; (· (focus (repeat (first | exact Below.refl _ _ | exact Hid.out (by assumption) | refine Below.setCell ?_ (by first | omega | (simp <;> omega)) _ | refine Below.alloc ?_ (by first | omega | (simp <;> omega)) _)))); rintro e w1 ⟨⟨u, rfl⟩, hb1⟩; have HB1 : Hid (Below w.heap.size w w1) := Below.trans (by (focus (repeat (first | exact Below.refl _ _ | exact Hid.out (by assumption) | refine Below.setCell ?_ (by first | omega | (simp <;> omega)) _ | refine Below.alloc ?_ (by first | omega | (simp <;> omega)) _)))) (hb1.mono (by first | omega | (simp <;> omega))); have HR1 : Hid (w1.heap[w.heap.size + 1]? = some (.cells #[.slice none 0 0, .slice none 0 0] 40)) := (hb1.block _ (by first | omega | (simp <;> omega))).trans (kNew (by simp)); have HM1 : Hid (w1.heap[w.heap.size]? = some (.cells #[.slice ca al ck, .slice qa ql qk] 40)) := (hb1.block _ (by first | omega | (simp <;> omega))).trans (kOld (kNew rfl)); obtain ⟨m0, m1, _, _, m4⟩ := k2 HM1.out; have hz1 : w.heap.size + 2 ≤ w1.heap.size := (by have := hb1.size; simp at this; omega); clear hb1 CP1)
        | (go_at_call 98; refine (CC1.out _ (w1.heap.size + 1) (.slice (some ⟨w1.heap.size, 0, none⟩) 1 1) ?_ ?_ ?_ ?_ ?_).mono ?_; (· (focus (repeat (first | exact Below.refl _ _ | exact Hid.out (by assumption) | refine Below.setCell ?_ (by first | omega | (simp <;> omega)) _ | refine Below.alloc ?_ (by first | omega | (simp <;> omega)) _)))); (· simp [go_sem]); (· simp [go_sem]); (· exact strs1 (kOld (kNew rfl))); (· simp); rintro e w2 ⟨a2, k2', rfl, hs2, hb2⟩; have HB2 : Hid (Below w.heap.size w w2) := Below.trans (by (focus (repeat (first | exact Below.refl _ _ | exact Hid.out (by assumption) | refine Below.setCell ?_ (by first | omega | (simp <;> omega)) _ | refine Below.alloc ?_ (by first | omega | (simp <;> omega)) _)))) (hb2.mono (by first | omega | (simp <;> omega))); have HS2 := hidK hs2; have HR2 : Hid (w2.heap[w.heap.size + 1]? = some (.cells #[.slice none 0 0, .slice none 0 0] 40)) := (hb2.block _ (by first | omega | (simp <;> omega))).trans (kOld (kOld HR1.out)); have hz2 : w.heap.size + 2 ≤ w2.heap.size := (by have := hb2.size; simp at this; omega); clear hb2 hs2 CC1)
        | (go_at_call 67; refine (CK.out _ _ HB2.out HS2.out).mono ?_; rintro e w3 ⟨a3, k3, qa3, qk3, rfl, hfar, hrow, hb3⟩; have HB3 : Hid (Below w.heap.size w w3) := HB2.out.trans (hb3.mono HB2.out.size); have HF3 := hidK (hfar.low hz2); have HROW := hidK hrow; have HR3 : Hid (w3.heap[w.heap.size + 1]? = some (.cells #[.slice none 0 0, .slice none 0 0] 40)) := (hb3.block _ (by first | omega | (simp <;> omega))).trans HR2.out; obtain ⟨q0, q1, q2, q3, q4⟩ := k2 HR3.out; clear hb3 hfar hrow CK))
      refine bodyPost_ret (v := .tuple #[.agg #[.slice a3 (okN F T.len) k3, .slice qa3 0 qk3], .int .i64 F]) (by simp [results, Tryz.results68, go_sem, q0, q1]) rfl ⟨a3, k3, qa3, qk3, rfl, ?_, HROW.out, ?_⟩
      · exact ((HF3.out.setCell (by simp) _).setCell (by simp) _).low (by omega)
      · (focus (repeat (first | exact Below.refl _ _ | exact Hid.out (by assumption) | refine Below.setCell ?_ (by first | omega | (simp <;> omega)) _ | refine Below.alloc ?_ (by first | omega | (simp <;> omega)) _)))
set_option maxHeartbeats 3200000 in
theorem outlineBuild_is (a b : Txts) (ca qa ca' qa' : Option Addr) (ck ql qk ck' ql' qk' : Nat) (w : World) (hc : StrsIs w (.slice ca a.len ck) a.len a.at_) (hc' : StrsIs w (.slice ca' b.len ck') b.len b.at_) (hT : Tabs w) :
    Calls Tryz.prog 69 #[.agg #[.slice ca a.len ck, .slice qa ql qk], .agg #[.slice ca' b.len ck', .slice qa' ql' qk']] w fun e w' => OutT (if (allT a (onC iterS) && allT b ipiC) = true then colsF itC.at_ itC.len else 9) itC w e w' := by
  rw [itC_may]
  have CP : Hid (∀ W v, Below w.heap.size w W → StrsIs W v (onC iterS).len (onC iterS).at_ → Calls Tryz.prog 11 #[.slice ca a.len ck, v] W fun e w' => (∃ u, e = .returned (.tuple #[u, .int .i64 (if allT a (onC iterS) = true then 0 else 9)])) ∧ Below W.heap.size W w') := fun W v hW hs => placesAny_is _ v a.len 1 a.at_ _ W (hc.below hW) hs (by omega)
  have CQ : Hid (∀ W v, Below w.heap.size w W → StrsIs W v ipiC.len ipiC.at_ → Calls Tryz.prog 11 #[.slice ca' b.len ck', v] W fun e w' => (∃ u, e = .returned (.tuple #[u, .int .i64 (if allT b ipiC = true then 0 else 9)])) ∧ Below W.heap.size W w') := fun W v hW hs => placesAny_is _ v b.len 3 b.at_ _ W (hc'.below hW) hs (by omega)
  have CK : Hid (∀ W v, Below w.heap.size w W → StrsIs W v itC.len itC.at_ → Calls Tryz.prog 67 #[v] W fun e w' => OutT 0 itC W e w') := fun W v hW hs => by
    have h := columnsAny_is v _ _ W hs itC_fine fun W' hW' => Utf8Tabs_below hT (hW.trans (hW'.mono hW.size))
    rw [itC_may] at h
    exact h
  clear hT hc hc'
  cases h1 : allT a (onC iterS) with
  | false =>
    rw [h1] at CP
    rw [if_neg (by simp)]
    clear CQ CK h1
    go_enter Tryz.func69, Tryz.ntmps69
    go_wp2_with (go_at_call 11; refine (CP.out _ _ ?_ ?_).mono ?_; (· (focus (repeat (first | exact Below.refl _ _ | exact Hid.out (by assumption) | refine Below.setCell ?_ (by first | omega | (simp <;> omega)) _ | refine Below.alloc ?_ (by first | omega | (simp <;> omega)) _)))); (· exact strs1 (kNew (by simp))); rintro e w1 ⟨⟨u, rfl⟩, hb1⟩; have HB1 : Hid (Below w.heap.size w w1) := Below.trans (by (focus (repeat (first | exact Below.refl _ _ | exact Hid.out (by assumption) | refine Below.setCell ?_ (by first | omega | (simp <;> omega)) _ | refine Below.alloc ?_ (by first | omega | (simp <;> omega)) _)))) (hb1.mono (by first | omega | (simp <;> omega))); have HR1 : Hid (w1.heap[w.heap.size + 2]? = some (.cells #[.slice none 0 0, .slice none 0 0] 40)) := (hb1.block _ (by first | omega | (simp <;> omega))).trans (kOld (kNew (by simp))); have HX1 : Hid (w1.heap[w.heap.size]? = some (.cells #[.slice ca a.len ck, .slice qa ql qk] 40)) := (hb1.block _ (by first | omega | (simp <;> omega))).trans (kOld (kOld (kOld (kNew rfl)))); have HY1 : Hid (w1.heap[w.heap.size + 1]? = some (.cells #[.slice ca' b.len ck', .slice qa' ql' qk'] 40)) := (hb1.block _ (by first | omega | (simp <;> omega))).trans (kOld (kOld (kNew (by simp)))); obtain ⟨q0, q1, q2, q3, q4⟩ := k2 HR1.out; obtain ⟨y0, y1, _, _, y4⟩ := k2 HY1.out; have hz1 : w.heap.size + 3 ≤ w1.heap.size := (by have := hb1.size; simp at this; omega); clear hb1 CP)
    refine bodyPost_ret (v := .tuple #[.agg #[.slice none 0 0, .slice none 0 0], .int .i64 9]) (by simp [results, Tryz.results69, go_sem, q0, q1]) rfl (OutT.bad (by decide) ?_)
    (focus (repeat (first | exact Below.refl _ _ | exact Hid.out (by assumption) | refine Below.setCell ?_ (by first | omega | (simp <;> omega)) _ | refine Below.alloc ?_ (by first | omega | (simp <;> omega)) _)))
  | true =>
    rw [h1] at CP
    clear h1
    cases h2 : allT b ipiC with
    | false =>
      rw [h2] at CQ
      rw [if_neg (by simp)]
      clear CK h2
      go_enter Tryz.func69, Tryz.ntmps69
      go_wp2_with (first
        | (go_at_call 11; refine (CP.out _ _ ?_ ?_).mono ?_; (· (focus (repeat (first | exact Below.refl _ _ | exact Hid.out (by assumption) | refine Below.setCell ?_ (by first | omega | (simp <;> omega)) _ | refine Below.alloc ?_ (by first | omega | (simp <;> omega)) _)))); (· exact strs1 (kNew (by simp))); rintro e w1 ⟨⟨u, rfl⟩, hb1⟩; have HB1 : Hid (Below w.heap.size w w1) := Below.trans (by (focus (repeat (first | exact Below.refl _ _ | exact Hid.out (by assumption) | refine Below.setCell ?_ (by first | omega | (simp <;> omega)) _ | refine Below.alloc ?_ (by first | omega | (simp <;> omega)) _)))) (hb1.mono (by first | omega | (simp <;> omega))); have HR1 : Hid (w1.heap[w.heap.size + 2]? = some (.cells #[.slice none 0 0, .slice none 0 0] 40)) := (hb1.block _ (by first | omega | (simp <;> omega))).trans (kOld (kNew (by simp))); have HX1 : Hid (w1.heap[w.heap.size]? = some (.cells #[.slice ca a.len ck, .slice qa ql qk] 40)) := (hb1.block _ (by first | omega | (simp <;> omega))).trans (kOld (kOld (kOld (kNew rfl)))); have HY1 : Hid (w1.heap[w.heap.size + 1]? = some (.cells #[.slice ca' b.len ck', .slice qa' ql' qk'] 40)) := (hb1.block _ (by first | omega | (simp <;> omega))).trans (kOld (kOld (kNew (by simp)))); obtain ⟨q0, q1, q2, q3, q4⟩ := k2 HR1.out; obtain ⟨y0, y1, _, _, y4⟩ := k2 HY1.out; have hz1 : w.heap.size + 3 ≤ w1.heap.size := (by have := hb1.size; simp at this; omega); clear hb1 CP)
        | (go_at_call 11; refine (CQ.out _ _ ?_ ?_).mono ?_; (· (focus (repeat (first | exact Below.refl _ _ | exact Hid.out (by assumption) | refine Below.setCell ?_ (by first | omega | (simp <;> omega)) _ | refine Below.alloc ?_ (by first | omega | (simp <;> omega)) _)))); (· exact strs_ipi (kNew (by simp))); rintro e w2 ⟨⟨u, rfl⟩, hb2⟩; have HB2 : Hid (Below w.heap.size w w2) := Below.trans (by (focus (repeat (first | exact Below.refl _ _ | exact Hid.out (by assumption) | refine Below.setCell ?_ (by first | omega | (simp <;> omega)) _ | refine Below.alloc ?_ (by first | omega | (simp <;> omega)) _)))) (hb2.mono (by first | omega | (simp <;> omega))); have HR2 : Hid (w2.heap[w.heap.size + 2]? = some (.cells #[.slice none 0 0, .slice none 0 0] 40)) := (hb2.block _ (by first | omega | (simp <;> omega))).trans (kOld HR1.out); obtain ⟨q0, q1, q2, q3, q4⟩ := k2 HR2.out; have hz2 : w.heap.size + 3 ≤ w2.heap.size := (by have := hb2.size; simp at this; omega); clear hb2 CQ))
      refine bodyPost_ret (v := .tuple #[.agg #[.slice none 0 0, .slice none 0 0], .int .i64 9]) (by simp [results, Tryz.results69, go_sem, q0, q1]) rfl (OutT.bad (by decide) ?_)
      (focus (repeat (first | exact Below.refl _ _ | exact Hid.out (by assumption) | refine Below.setCell ?_ (by first | omega | (simp <;> omega)) _ | refine Below.alloc ?_ (by first | omega | (simp <;> omega)) _)))
    | true =>
      rw [h2] at CQ
      rw [if_pos (by rfl)]
      clear h2
      go_enter Tryz.func69, Tryz.ntmps69
      go_wp2_with (first
        | (go_at_call 11; refine (CP.out _ _ ?_ ?_).mono ?_; (· (focus (repeat (first | exact Below.refl _ _ | exact Hid.out (by assumption) | refine Below.setCell ?_ (by first | omega | (simp <;> omega)) _ | refine Below.alloc ?_ (by first | omega | (simp <;> omega)) _)))); (· exact strs1 (kNew (by simp))); rintro e w1 ⟨⟨u, rfl⟩, hb1⟩; have HB1 : Hid (Below w.heap.size w w1) := Below.trans (by (focus (repeat (first | exact Below.refl _ _ | exact Hid.out (by assumption) | refine Below.setCell ?_ (by first | omega | (simp <;> omega)) _ | refine Below.alloc ?_ (by first | omega | (simp <;> omega)) _)))) (hb1.mono (by first | omega | (simp <;> omega))); have HR1 : Hid (w1.heap[w.heap.size + 2]? = some (.cells #[.slice none 0 0, .slice none 0 0] 40)) := (hb1.block _ (by first | omega | (simp <;> omega))).trans (kOld (kNew (by simp))); have HX1 : Hid (w1.heap[w.heap.size]? = some (.cells #[.slice ca a.len ck, .slice qa ql qk] 40)) := (hb1.block _ (by first | omega | (simp <;> omega))).trans (kOld (kOld (kOld (kNew rfl)))); have HY1 : Hid (w1.heap[w.heap.size + 1]? = some (.cells #[.slice ca' b.len ck', .slice qa' ql' qk'] 40)) := (hb1.block _ (by first | omega | (simp <;> omega))).trans (kOld (kOld (kNew (by simp)))); obtain ⟨q0, q1, q2, q3, q4⟩ := k2 HR1.out; obtain ⟨y0, y1, _, _, y4⟩ := k2 HY1.out; have hz1 : w.heap.size + 3 ≤ w1.heap.size := (by have := hb1.size; simp at this; omega); clear hb1 CP)
        | (go_at_call 11; refine (CQ.out _ _ ?_ ?_).mono ?_; (· (focus (repeat (first | exact Below.refl _ _ | exact Hid.out (by assumption) | refine Below.setCell ?_ (by first | omega | (simp <;> omega)) _ | refine Below.alloc ?_ (by first | omega | (simp <;> omega)) _)))); (· exact strs_ipi (kNew (by simp))); rintro e w2 ⟨⟨u, rfl⟩, hb2⟩; have HB2 : Hid (Below w.heap.size w w2) := Below.trans (by (focus (repeat (first | exact Below.refl _ _ | exact Hid.out (by assumption) | refine Below.setCell ?_ (by first | omega | (simp <;> omega)) _ | refine Below.alloc ?_ (by first | omega | (simp <;> omega)) _)))) (hb2.mono (by first | omega | (simp <;> omega))); have HR2 : Hid (w2.heap[w.heap.size + 2]? = some (.cells #[.slice none 0 0, .slice none 0 0] 40)) := (hb2.block _ (by first | omega | (simp <;> omega))).trans (kOld HR1.out); obtain ⟨q0, q1, q2, q3, q4⟩ := k2 HR2.out; have hz2 : w.heap.size + 3 ≤ w2.heap.size := (by have := hb2.size; simp at this; omega); clear hb2 CQ)
        | (go_at_call 67; refine (CK.out _ _ ?_ ?_).mono ?_; (· (focus (repeat (first | exact Below.refl _ _ | exact Hid.out (by assumption) | refine Below.setCell ?_ (by first | omega | (simp <;> omega)) _ | refine Below.alloc ?_ (by first | omega | (simp <;> omega)) _)))); (· exact strs_it (kNew (by simp))); rintro e w3 ⟨a3, k3, qa3, qk3, rfl, hfar, hrow, hb3⟩; have HB3 : Hid (Below w.heap.size w w3) := Below.trans (by (focus (repeat (first | exact Below.refl _ _ | exact Hid.out (by assumption) | refine Below.setCell ?_ (by first | omega | (simp <;> omega)) _ | refine Below.alloc ?_ (by first | omega | (simp <;> omega)) _)))) (hb3.mono (by first | omega | (simp <;> omega))); have HF3 := hidK (hfar.low (B' := w.heap.size + 3) (by simp; omega)); have HROW := hidK hrow; have HR3 : Hid (w3.heap[w.heap.size + 2]? = some (.cells #[.slice none 0 0, .slice none 0 0] 40)) := (hb3.block _ (by first | omega | (simp <;> omega))).trans (kOld HR2.out); obtain ⟨q0, q1, q2, q3, q4⟩ := k2 HR3.out; clear hb3 hfar hrow CK))
      refine bodyPost_ret (v := .tuple #[.agg #[.slice a3 (okN 0 itC.len) k3, .slice qa3 0 qk3], .int .i64 0]) (by simp [results, Tryz.results69, go_sem, q0, q1]) rfl ⟨a3, k3, qa3, qk3, rfl, ?_, HROW.out, ?_⟩
      · exact ((HF3.out.setCell (by simp) _).setCell (by simp) _).low (by omega)
      · (focus (repeat (first | exact Below.refl _ _ | exact Hid.out (by assumption) | refine Below.setCell ?_ (by first | omega | (simp <;> omega)) _ | refine Below.alloc ?_ (by first | omega | (simp <;> omega)) _)))
end Go.Proofs.YtkcejelmohameaaGreatDoor
