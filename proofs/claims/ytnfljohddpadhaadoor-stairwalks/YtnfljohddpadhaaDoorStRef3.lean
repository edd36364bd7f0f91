/-
  CONTRACT of the document's steps: walkedAt.
-/
import Derived.Test.YtnfljohddpadhaaDoorStRef2
import Derived.Deep.QuietTactic
import Derived.BigQuiet
import Derived.WalkLawsBesides
import Derived.Outline
import Derived.Deep.RegionHeld3
set_option linter.unusedVariables false
namespace Go.Proofs.YtnfljohddpadhaaDoor
set_option maxRecDepth 100000
open Go.RowKit Go.WideShapes

/-- what a step over nodes that may be tells -/
def WaT (E : Nat → Nd) (N n : Nat) (Z : Nat → Int) (axis tk : Int) (tn : ByteArray) (w : World) (e : Ending) (w' : World) : Prop := ∃ v L, e = .returned v ∧ w'.ownsRow w.heap.size 3 1 v L.length (nCells L) ∧ Rise L ∧ (∀ x : Nat, x ∈ L ↔ (x < N ∧ (∃ j, j < n ∧ onA E (Z j).toNat axis x) ∧ tmB (E x) axis tk tn = true)) ∧ Below w.heap.size w w'
set_option maxHeartbeats 6400000 in
theorem walkedAt_is (v kv : Value) (N n : Nat) (E : Nat → Nd) (Z : Nat → Int) (axis tk : Int) (tn : ByteArray) (w : World) (t : Tr E N) (hN : N ≤ 100000) (hv : NdsIs w v N E) (hk : NumsIs w kv n Z) (hz : ∀ j, j < n → 0 ≤ Z j ∧ Z j < N) (hf : ∀ i, i < N → (E i).name.size ≤ maxLen) (htn : tn.size ≤ maxLen) (a1 : 1 ≤ axis) (a2 : axis ≤ 12) (h1 : 1 ≤ tk) (h5 : tk ≤ 5) :
    Calls Tryd.prog 13 #[v, kv, .int .i64 axis, .agg #[.int .i64 tk, .string tn]] w fun e w' => WaT E N n Z axis tk tn w e w' := by
  obtain ⟨W1, hW1⟩ : ∃ W, W = w.alloc (.cells #[.int .i64 tk, .string tn] 25) := ⟨_, rfl⟩
  have b1 : Below w.heap.size w W1 := by rw [hW1]; exact (Below.refl _ _).alloc (Nat.le_refl _) _
  have HX1 : Hid (W1.heap[w.heap.size]? = some (.cells #[.int .i64 tk, .string tn] 25)) := by rw [hW1]; exact heap_alloc_new _ _
  have hz1 : w.heap.size < W1.heap.size := (Array.getElem?_eq_some_iff.1 HX1.out).1
  obtain ⟨la, lb, lo, lcap, rfl, hw1, hlb1⟩ := wk_of (hv.below b1) hN (by omega)
  have HW1 := hidS hw1
  have HB1 := hidS b1
  have HK1 := hidS (hk.below b1)
  obtain ⟨ka, kcap, rfl, k1, k2, _⟩ := hk
  obtain ⟨i0, hi0, hy0, hy1, hy2⟩ := info_partsK infoN
  have HT := hidS t
  have HZ := hidS hz
  have HFN := hidS hf
  have hcapN := hw1.cap
  have hmaxN := hw1.max
  unfold maxLen at hmaxN k2
  have CX : Hid (∀ (W : World) (c m : Nat), Below W1.heap.size W1 W → c < N → m < N → Calls Tryd.prog 19 #[.slice la N lcap, .int .i64 (c : Int), .int .i64 axis, .int .i64 (m : Int)] W fun e w' => OnT W (onA E c axis m) e w') := fun W c m hW hc hm => by
    obtain rfl := hw1.la (by omega)
    exact onAxis_is lb lo N lcap E c m axis W t hN hcapN (hw1.below hW).at_ hc hm a1 a2
  clear hv hw1 b1 t hz hf
  go_enter Tryd.func13, Tryd.ntmps13
  go_upto_region 3 with fail
  rw [← hW1]
  clear hW1
  go_loopw [9, 10] (fun u i wr => ∃ (m : Nat) (L : List Nat), m ≤ N ∧ i = .int .i64 (m : Int) ∧ wr.ownsRow W1.heap.size 3 1 u L.length (nCells L) ∧ Rise L ∧ (∀ x : Nat, x ∈ L ↔ (x < m ∧ (∃ j, j < n ∧ onA E (Z j).toNat axis x) ∧ tmB (E x) axis tk tn = true)) ∧ L.length ≤ m ∧ Below W1.heap.size W1 wr) (fun _ i _ => N - (intOf i).toNat)
  case atStart => exact ⟨0, [], Nat.zero_le _, rfl, World.ownsRow_nil _ _ _ _, List.Pairwise.nil, fun x => ⟨(fun h => by cases h), fun h => by omega⟩, Nat.le_refl _, Below.refl _ _⟩
  case round =>
    obtain ⟨m, L, hm, rfl, how, hrise, hmem, hlen, hbr⟩ := hrel
    have HOW := hidS how
    have HRI := hidS hrise
    have HMEM := hidS hmem
    have HBR := hidS hbr
    have hzr := hbr.size
    have hsh : ∃ a c, u9 = .slice a L.length c := by
      obtain ⟨_, ⟨e0, e1⟩ | ⟨b, cap, cur, e0, _⟩⟩ := how
      · exact ⟨none, 0, by rw [e0]; simp [e1]⟩
      · exact ⟨_, _, e0⟩
    obtain ⟨va, vc, rfl⟩ := hsh
    clear how hrise hmem hbr
    by_cases hmN : m < N
    · have hmi : (m : Int) < (N : Int) := by omega
      obtain rfl := HW1.out.la (by omega)
      go_upto_region 7 with fail
      go_loopw [11, 12] (fun th k wq => ∃ (q : Nat) (b : Bool), q ≤ n ∧ k = .int .i64 (q : Int) ∧ th = .bool b ∧ (b = true ↔ ∃ j, j < q ∧ onA E (Z j).toNat axis m) ∧ Below wr.heap.size wr wq) (fun _ k _ => n - (intOf k).toNat)
      case atStart => exact ⟨0, false, Nat.zero_le _, rfl, rfl, ⟨(fun h => by cases h), fun ⟨j, hj, _⟩ => by omega⟩, Below.refl _ _⟩
      case round =>
        obtain ⟨q, b, hq, rfl, rfl, hb, hbq⟩ := hrel
        have HB := hidS hb
        have HBQ := hidS hbq
        have HBW : Hid (Below W1.heap.size W1 wr) := HBR.out.trans (hbq.mono hzr)
        clear hb hbq
        have GO : ∀ (bb : Bool), (bb = true ↔ (∃ j, j < n ∧ onA E (Z j).toNat axis m)) → True := fun _ _ => trivial
        clear GO
        by_cases hqn : q < n ∧ b = false
        · obtain ⟨hq1, rfl⟩ := hqn
          have hqi : (q : Int) < (n : Int) := by omega
          obtain ⟨ka', kcap', e', _, _, k3⟩ := HK1.out
          cases e'
          obtain ⟨kb, ko, rfl, hkb, hcell⟩ := k3 (by omega)
          have e1 : wr.cell? ⟨kb, ko + q, none⟩ = some (.int .i64 ((Z q).toNat : Int)) := by
            rw [HBW.out.cell (p := ⟨kb, ko + q, none⟩) hkb, hcell q hq1]
            have := HZ.out q hq1
            simp
            omega
          have CX1 := hidS (CX.out wr (Z q).toNat m HBW.out (by have := HZ.out q hq1; omega) hmN)
          have HNO : Hid (∀ j, j < q → ¬ onA E (Z j).toNat axis m) := fun j hj h => by
            have := HB.out.2 ⟨j, hj, h⟩
            cases this
          clear k3 hcell
          generalize hzq : (Z q).toNat = zq at e1 CX1
          have HZQ := hidS hzq
          clear hzq
          go_wp2_with (go_at_call 19; refine CX1.out.mono ?_; intro e w9 hT9; obtain ⟨b9, rfl, hb9, hB9⟩ := hT9; have H9 := hidS hb9; have HB9 := hidS hB9; clear hb9 hB9 CX1)
          go_roundw
          case rel => exact ⟨q + 1, b9, by omega, by go_num, rfl, ⟨fun h => ⟨q, by omega, by rw [HZQ.out]; exact H9.out.1 h⟩, fun ⟨j, hj, h⟩ => by
              by_cases e : j = q
              · subst e; rw [HZQ.out] at h; exact H9.out.2 h
              · exact absurd h (HNO.out j (by omega))⟩, HBQ.out.trans (HB9.out.mono HBQ.out.size)⟩
          case measure => simp [intOf] <;> omega
        · have HTH : Hid (b = true ↔ (∃ j, j < n ∧ onA E (Z j).toNat axis m)) := by
            cases b with
            | true =>
              refine ⟨fun _ => ?_, fun _ => rfl⟩
              obtain ⟨j, hj, h⟩ := HB.out.1 rfl
              exact ⟨j, by omega, h⟩
            | false =>
              have hq1 : q = n := by
                by_cases e : q < n
                · exact absurd ⟨e, rfl⟩ hqn
                · omega
              subst hq1
              exact HB.out
          have HOQ : Hid (wr.ownsRow W1.heap.size 3 1 (.slice va L.length vc) L.length (nCells L)) := own_keep HOW.out (fun b hb => HBQ.out.block b (World.ownsRow.lt HOW.out b hb).2)
          have hzq := HBW.out.size
          have hqf : b = false → ¬ (q : Int) < (n : Int) := fun e h => hqn ⟨by omega, e⟩
          clear HB hqn HOW HBQ CX
          cases b
          · have hqi := hqf rfl
            clear hqf
            go_upto_region 10 with fail
            go_quiet (fail)
            go_wp2_with fail
            go_roundw
            case rel => exact ⟨m + 1, L, by omega, by go_num, own_keep HOQ.out (fun b _ => rfl), HRI.out, fun x => ⟨fun h => ⟨by have := ((HMEM.out x).1 h).1; omega, ((HMEM.out x).1 h).2⟩, fun h => by
                by_cases e : x = m
                · subst e
                  exact absurd (HTH.out.2 h.2.1) (by first | decide | exact id)
                · exact (HMEM.out x).2 ⟨by omega, h.2⟩⟩, by omega, ⟨HBW.out.os, HBW.out.tape, HBW.out.output, HBW.out.size, HBW.out.block⟩⟩
            case measure => simp [intOf] <;> omega
          · clear hqf
            rcases Decidable.em ((q : Int) < (n : Int)) with hqi | hqi
            all_goals
              have HXm : Hid (∀ W, Below wr.heap.size wr W → ((W.cell? ⟨w.heap.size, 0, none⟩ = some (.int .i64 tk) ∧ W.cell? ⟨w.heap.size, 1, none⟩ = some (.string tn)) ∧ W.cell? ⟨lb, lo + m * 6, none⟩ = some (.int .i64 (E m).kind) ∧ W.cell? ⟨lb, lo + m * 6 + 1, none⟩ = some (.string (E m).name) ∧ W.cell? ⟨lb, lo + m * 6 + 2, none⟩ = some (.string (E m).value) ∧ W.cell? ⟨lb, lo + m * 6 + 3, none⟩ = some (.int .i64 (E m).size) ∧ W.cell? ⟨lb, lo + m * 6 + 4, none⟩ = some (.int .i64 (E m).level) ∧ W.cell? ⟨lb, lo + m * 6 + 5, none⟩ = some (.int .i64 (E m).parent))) := fun W hW => by
                have hBW : Below W1.heap.size W1 W := HBW.out.trans (hW.mono hzq)
                have k1 := (hBW.block w.heap.size (by omega)).trans HX1.out
                obtain ⟨d0, d1, d2, d3, d4, d5⟩ := (HW1.out.below hBW).at_ m hmN
                exact ⟨⟨by rw [Lib.cell_of_heap k1]; rfl, by rw [Lib.cell_of_heap k1]; rfl⟩, d0, d1, d2, d3, d4, d5⟩
              have CT : Hid (∀ W, Below wr.heap.size wr W → Calls Tryd.prog 20 #[.agg #[.int .i64 (E m).kind, .string (E m).name, .string (E m).value, .int .i64 (E m).size, .int .i64 (E m).level, .int .i64 (E m).parent], .int .i64 axis, .agg #[.int .i64 tk, .string tn]] W fun e w' => e = .returned (.bool (tmB (E m) axis tk tn)) ∧ Below W.heap.size W w') := fun W hW => testMeets_is (E m) axis tk tn W (HFN.out m hmN) htn h1 h5
              obtain ⟨⟨t0, t1⟩, d0, d1, d2, d3, d4, d5⟩ := HXm.out wr (Below.refl _ _)
              go_upto_region 10 with fail
              cases htm : tmB (E m) axis tk tn
              · have HTM := hidS htm
                rw [htm] at CT
                clear htm
                go_region_held3 (fun W => ((W.cell? ⟨w.heap.size, 0, none⟩ = some (.int .i64 tk) ∧ W.cell? ⟨w.heap.size, 1, none⟩ = some (.string tn)) ∧ W.cell? ⟨lb, lo + m * 6, none⟩ = some (.int .i64 (E m).kind) ∧ W.cell? ⟨lb, lo + m * 6 + 1, none⟩ = some (.string (E m).name) ∧ W.cell? ⟨lb, lo + m * 6 + 2, none⟩ = some (.string (E m).value) ∧ W.cell? ⟨lb, lo + m * 6 + 3, none⟩ = some (.int .i64 (E m).size) ∧ W.cell? ⟨lb, lo + m * 6 + 4, none⟩ = some (.int .i64 (E m).level) ∧ W.cell? ⟨lb, lo + m * 6 + 5, none⟩ = some (.int .i64 (E m).parent)))
                  ((refine HXm.out _ ?_; repeat (first | exact Hid.out (by assumption) | exact Below.refl _ _ | refine Below.drew ?_)))
                  (first
                    | (go_at_call 20; refine (CT.out _ ?_).mono ?_; (focus (repeat (first | exact Hid.out (by assumption) | exact Below.refl _ _ | refine Below.drew ?_))); rintro e w6 ⟨rfl, hb6⟩; have HB6 : Hid (Below wr.heap.size wr w6) := (⟨hb6.os, hb6.tape, hb6.output, hb6.size, hb6.block⟩ : Below wr.heap.size wr w6); clear hb6 CT))
                all_goals
                  go_wp2_with fail
                  go_roundw
                  case rel => exact ⟨m + 1, L, by omega, by go_num, own_keep HOQ.out (fun b hb => HB6.out.block b (World.ownsRow.lt HOQ.out b hb).2), HRI.out, fun x => ⟨fun h => ⟨by have := ((HMEM.out x).1 h).1; omega, ((HMEM.out x).1 h).2⟩, fun h => by
                  by_cases e : x = m
                  · subst e
                    have h3 := h.2.2; rw [HTM.out] at h3; exact absurd h3 (by decide)
                  · exact (HMEM.out x).2 ⟨by omega, h.2⟩⟩, by omega, HBW.out.trans (HB6.out.mono hzq)⟩
                  case measure => simp [intOf] <;> omega
              · have HTM := hidS htm
                rw [htm] at CT
                clear htm
                go_region_held3 (fun W => ((W.cell? ⟨w.heap.size, 0, none⟩ = some (.int .i64 tk) ∧ W.cell? ⟨w.heap.size, 1, none⟩ = some (.string tn)) ∧ W.cell? ⟨lb, lo + m * 6, none⟩ = some (.int .i64 (E m).kind) ∧ W.cell? ⟨lb, lo + m * 6 + 1, none⟩ = some (.string (E m).name) ∧ W.cell? ⟨lb, lo + m * 6 + 2, none⟩ = some (.string (E m).value) ∧ W.cell? ⟨lb, lo + m * 6 + 3, none⟩ = some (.int .i64 (E m).size) ∧ W.cell? ⟨lb, lo + m * 6 + 4, none⟩ = some (.int .i64 (E m).level) ∧ W.cell? ⟨lb, lo + m * 6 + 5, none⟩ = some (.int .i64 (E m).parent)))
                  ((refine HXm.out _ ?_; repeat (first | exact Hid.out (by assumption) | exact Below.refl _ _ | refine Below.drew ?_)))
                  (first
                    | (go_at_call 20; refine (CT.out _ ?_).mono ?_; (focus (repeat (first | exact Hid.out (by assumption) | exact Below.refl _ _ | refine Below.drew ?_))); rintro e w6 ⟨rfl, hb6⟩; have HB6 : Hid (Below wr.heap.size wr w6) := (⟨hb6.os, hb6.tape, hb6.output, hb6.size, hb6.block⟩ : Below wr.heap.size wr w6); clear hb6 CT))
                all_goals
                  have HO6 : Hid (w6.ownsRow W1.heap.size 3 1 (.slice va L.length vc) L.length (nCells L)) := own_keep HOQ.out (fun b hb => HB6.out.block b (World.ownsRow.lt HOQ.out b hb).2)
                  have hz6 := HB6.out.size
                  go_wp2_with (first | (at_builtin; refine wpList_append_atK rfl (.tmp 47) (.tmp 49) 23 rfl W1.heap.size 3 i0 _ 1 8 Tryd.underlying23 hi0 hy0 hy1 hy2 rfl (by decide) _ _ _ rfl (HO6.out.alloc _) ⟨w6.heap.size, 0, none⟩ 1 1 [.int .i64 (m : Int)] rfl rfl (num_in m) (by simp [Value.oneCell']) (by unfold maxLen; omega) (by omega) (by simp <;> omega) ?_; intro v7 w7 hown7 hgrow7 hk7; have HO7 : Hid (w7.ownsRow W1.heap.size 3 1 v7 (L ++ [m]).length (nCells (L ++ [m]))) := (by rw [List.length_append]; simp only [nCells, List.map_append, List.map_cons, List.map_nil]; exact hown7); have HB7 : Hid (Below W1.heap.size W1 w7) := Below.grown ((HBW.out.trans (HB6.out.mono hzq)).alloc (by omega) _) hgrow7 (by simp; omega) (fun q hq => (World.ownsRow.lt HO6.out q hq).1); clear hown7 hgrow7 hk7))
                  go_roundw
                  case rel => exact ⟨m + 1, L ++ [m], by omega, by go_num, HO7.out, List.pairwise_append.2 ⟨HRI.out, by simp, fun a ha b hb => by
                      have e : b = m := by simpa using hb
                      have := ((HMEM.out a).1 ha).1
                      omega⟩, fun x => ⟨fun h => by
                      rcases List.mem_append.1 h with h | h
                      · exact ⟨by have := ((HMEM.out x).1 h).1; omega, ((HMEM.out x).1 h).2⟩
                      · obtain rfl : x = m := by simpa using h
                        exact ⟨by omega, HTH.out.1 (by first | rfl | trivial), HTM.out⟩, fun h => by
                      by_cases e : x = m
                      · subst e; exact List.mem_append.2 (.inr (by simp))
                      · exact List.mem_append.2 (.inl ((HMEM.out x).2 ⟨by omega, h.2⟩))⟩, by simp; omega, HB7.out⟩
                  case measure => simp [intOf] <;> omega
    · obtain rfl : m = N := by omega
      have hmi : ¬ (m : Int) < (m : Int) := by omega
      go_wp2_with fail
      go_ret
      exact ⟨_, L, rfl, own_base HOW.out HB1.out.size, HRI.out, HMEM.out, HB1.out.trans (HBR.out.mono HB1.out.size)⟩
end Go.Proofs.YtnfljohddpadhaaDoor
