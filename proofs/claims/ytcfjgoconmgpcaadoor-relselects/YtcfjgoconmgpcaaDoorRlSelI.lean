/-
  CONTRACT of rel.Select.
-/
import Derived.Test.YtcfjgoconmgpcaaDoorRlKeep
import Derived.Test.YtcfjgoconmgpcaaDoorRlSel
set_option linter.unusedVariables false
namespace Go.Proofs.YtcfjgoconmgpcaaDoor
set_option maxRecDepth 100000
open Go.RowKit Go.WideShapes

set_option maxHeartbeats 400000 in
theorem select1_is (u : Value) (n p g : Nat) (X : Nat → It) (w : World) (hu : ItsIs w u n X) (hp : p < n) (hg : g < w.heap.size) (hc : w.cell? ⟨g, 0, none⟩ = some (.int .i64 (p : Int))) :
    Calls Tryd.prog 32 #[u, .pointer (some ⟨g, 0, none⟩)] w fun e w' => e = .returned (.bool ((X p).n == 1)) ∧ w' = w := by
  obtain ⟨ua, ucap, rfl, u1, u2, _, u3⟩ := hu
  obtain ⟨b, off, rfl, hb, u4⟩ := u3 (by omega)
  obtain ⟨_, e1, _⟩ := u4 p hp
  have hpi : (p : Int) < (n : Int) := by omega
  have hnn : n ≤ 9223372036854775807 := by unfold maxLen at u2; omega
  clear u2 u3 u4
  generalize (X p).n = xn at *
  go_enter Tryd.func32, Tryd.ntmps32
  go_wp2
  go_ret
  exact ⟨rfl, rfl⟩
set_option maxHeartbeats 6400000 in
theorem select_is (c q : Value) (n m : Nat) (C : Nat → ByteArray) (R : Nat → Row) (s : ByteArray) (w : World) (hc : StrsIs w c n C) (hq : RowsIs w q m R) (hf : StrsFine n C) (hg : RowsFine m R) (hT : Tabs w) :
    Calls Tryd.prog 12 #[.agg #[c, q], .string s] w fun e w' => ∃ c1 q1, e = .returned (.tuple #[.agg #[c1, q1], .int .i64 (selF C n R m s)]) ∧ FreshRel w w' c1 q1 (okN (selF C n R m s) n) (okN (selF C n R m s) (keptN (selK R (colI C n s).toNat) m)) C (keptR (selK R (colI C n s).toNat) m R) ∧ Below w.heap.size w w' := by
  have HW : Hid (∀ {W : World} {o o' : Obj}, Below (w.heap.size + 2) ((w.alloc o).alloc o') W → Below w.heap.size w W) := fun h => (below_two _ _).trans (h.mono (by omega))
  have C1 : Hid (∀ o o', Calls Tryd.prog 20 #[.agg #[c, q]] ((w.alloc o).alloc o') fun e w' => e = .returned (.int .i64 (relF C n R m)) ∧ Below (w.heap.size + 2) ((w.alloc o).alloc o') w') := fun o o' => by
    have h := relCheck_is c q n m C R _ (hc.below (below_two o o')) (hq.below (below_two o o')) hf hg (Utf8Tabs_below hT (below_two o o'))
    rwa [show ((w.alloc o).alloc o').heap.size = w.heap.size + 2 by simp] at h
  have CO : Hid (∀ W, Below w.heap.size w W → Calls Tryd.prog 21 #[c, .string s] W fun e w' => e = .returned (.tuple #[.int .i64 (colV C n s), .int .i64 (colF C n s)]) ∧ w' = W) := fun W hW => column_is c n C s W (hc.below hW)
  have HC : Hid (∀ W, Below w.heap.size w W → StrsIs W c n C) := fun W hW => hc.below hW
  have HQR : Hid (∀ W, Below w.heap.size w W → RowsIs W q m R) := fun W hW => hq.below hW
  have HFN : Hid (n * 16 ≤ 140737488351232) := hf.1
  have HG : Hid (∀ i, i < m → (R i).len * 32 ≤ 140737488351232) := fun i hi => (hg.2 i hi).1
  obtain ⟨qa, qcap, rfl, q1, q2, _, q3⟩ := hq
  have hmm : m ≤ 9223372036854775807 := by unfold maxLen at q2; omega
  have HQ : Hid (∀ W i, Below w.heap.size w W → i < m → ∃ b off u, qa = some ⟨b, off, none⟩ ∧ b < w.heap.size ∧ W.cell? ⟨b, off + i, none⟩ = some u ∧ ItsIs W u (R i).len (R i).at_) := fun W i hW hi => by
    obtain ⟨b, off, h1, h2, h3⟩ := q3 (by omega)
    obtain ⟨u, h4, h5⟩ := h3 i hi
    exact ⟨b, off, u, h1, h2, (hW.cell (p := ⟨b, off + i, none⟩) h2).trans h4, h5.below hW⟩
  obtain ⟨ca, ccap, rfl, c1, c2, _⟩ := hc
  clear hf hg hT q2 q3
  by_cases h0 : relF C n R m = 0
  · have hm6 : m ≤ 1000000 := (relF_zero h0).2.1
    have HLEN : Hid (∀ i, i < m → (R i).len = n) := row_len h0
    rw [h0] at C1
    rcases colI_cases C n s with hcol | ⟨p, hp, hcol⟩
    · have HFF : Hid (selF C n R m s = 9) := selF_col h0 hcol
      rw [(colF_no hcol).1, (colF_no hcol).2] at CO
      clear h0 hcol
      generalize selF C n R m s = F at *
      go_enter Tryd.func12, Tryd.ntmps12
      go_wp2_with (first | (go_at_call 20; refine (C1.out _ _).mono ?_; rintro e w1 ⟨rfl, hb1⟩; have HB1 : Hid (Below (w.heap.size + 2) ((w.alloc (.cells #[.slice ca n ccap, .slice qa m qcap] 25)).alloc (.cells #[.slice none 0 0, .slice none 0 0] 25)) w1) := hb1; obtain ⟨x0, x1, x2, x3, x4, x5, x6⟩ := box2r hb1; clear hb1) |
        (go_at_call 21; refine (CO.out _ (HW.out HB1.out)).mono ?_; rintro e w2 ⟨rfl, rfl⟩; have x7 : w.heap.size < w2.heap.size := Nat.lt_of_succ_lt x6))
      refine bodyPost_ret (v := .tuple #[.agg #[.slice none 0 0, .slice none 0 0], .int .i64 9]) (by simp [results, Tryd.results12, go_sem, x2, x3, x6]) rfl ⟨_, _, by rw [HFF.out], ?_, ?_⟩
      · rw [HFF.out]; exact FreshRel.nil _ _ _ _
      · exact (((HW.out HB1.out).setCell (by simp <;> omega) _).setCell (by simp <;> omega) _).alloc (by simp <;> omega) _
    · have HNO : Hid (∀ k, k < m → ¬ ((R k).at_ p).kind = 4 → selF C n R m s = 12) := fun k hk hx => selF_no h0 hcol hk hx
      have HYES : Hid ((∀ k, k < m → ((R k).at_ p).kind = 4) → selF C n R m s = 0) := fun hx => selF_yes h0 hcol hx
      rw [(colF_of hcol).1, (colF_of hcol).2] at CO
      rw [hcol, Int.toNat_natCast]
      have hpi : (p : Int) < (n : Int) := by omega
      have hnn : n ≤ 9223372036854775807 := by unfold maxLen at c2; omega
      clear h0 hcol c2
      generalize selF C n R m s = F at *
      have hmf : ∀ (fn : Fn) (first cap : Array Value) (w : World), (Instr.makeFunc fn first cap).run Tryd.prog w = .ok (.func fn first cap) w := fun _ _ _ _ => rfl
      go_enter Tryd.func12, Tryd.ntmps12
      go_wp2_with (first | (go_at_call 20; refine (C1.out _ _).mono ?_; rintro e w1 ⟨rfl, hb1⟩; have HB1 : Hid (Below (w.heap.size + 2) ((w.alloc (.cells #[.slice ca n ccap, .slice qa m qcap] 25)).alloc (.cells #[.slice none 0 0, .slice none 0 0] 25)) w1) := hb1; obtain ⟨x0, x1, x2, x3, x4, x5, x6⟩ := box2r hb1; clear hb1) |
        (go_at_call 21; refine (CO.out _ (HW.out HB1.out)).mono ?_; rintro e w2 ⟨rfl, rfl⟩; have x7 : w.heap.size < w2.heap.size := Nat.lt_of_succ_lt x6))
      have HBA : Hid (Below w.heap.size w (w2.alloc (.cells #[.int .i64 (p : Int)] 3))) := (HW.out HB1.out).alloc (by omega) _
      have hx6 : w.heap.size + 1 < w2.heap.size := x6
      go_loop [31] (fun i => ∃ k : Nat, k ≤ m ∧ i = .int .i64 k ∧ ∀ j, j < k → ((R j).at_ p).kind = 4) (fun i => m - (intOf i).toNat)
      case atStart => exact ⟨0, Nat.zero_le _, rfl, fun j hj => by omega⟩
      case round =>
        obtain ⟨k, hk, rfl, hok⟩ := hrel
        have HOK : Hid (∀ j, j < k → ((R j).at_ p).kind = 4) := hok
        clear hok
        by_cases hkm : k < m
        · obtain ⟨b, off, u, rfl, hb0, e1, hu⟩ := HQ.out _ k HBA.out hkm
          have hki : (k : Int) < (m : Int) := by omega
          rw [HLEN.out k hkm] at hu
          obtain ⟨ua, ucap, rfl, _, _, _, u3⟩ := hu
          obtain ⟨ub, uo, rfl, hub, u4⟩ := u3 (by omega)
          obtain ⟨e2, _, _⟩ := u4 p hp
          clear u3 u4
          by_cases hx : ((R k).at_ p).kind = 4
          · have HX : Hid (((R k).at_ p).kind = 4) := hx
            rw [hx] at e2
            clear hx
            go_wp2
            go_round
            case rel => exact ⟨k + 1, by omega, by go_num, fun j hj => by
              by_cases e : j = k
              · rw [e]; exact HX.out
              · exact HOK.out j (by omega)⟩
            case measure => simp [intOf]; omega
          · have HFF : Hid (F = 12) := HNO.out k hkm hx
            have hxx : (((R k).at_ p).kind != 4) = true := by simpa using hx
            generalize ((R k).at_ p).kind = xk at *
            clear hx
            go_wp2
            refine bodyPost_ret (v := .tuple #[.agg #[.slice none 0 0, .slice none 0 0], .int .i64 12]) (by simp [results, Tryd.results12, go_sem, x2, x3, x6]) rfl ⟨_, _, by rw [HFF.out], ?_, ?_⟩
            · rw [HFF.out]; exact FreshRel.nil _ _ _ _
            · exact (((HW.out HB1.out).setCell (by simp <;> omega) _).setCell (by simp <;> omega) _).alloc (by simp <;> omega) _
        · have e : k = m := by omega
          subst e
          have HF0 : Hid (F = 0) := HYES.out HOK.out
          have CK : Hid (Calls Tryd.prog 31 #[.agg #[.slice ca n ccap, .slice qa k qcap], .func (.func 32) #[] #[.pointer (some ⟨w2.heap.size, 0, none⟩)]] (w2.alloc (.cells #[.int .i64 (p : Int)] 3)) fun e w' => ∃ c1 q1, e = .returned (.agg #[c1, q1]) ∧ FreshRel (w2.alloc (.cells #[.int .i64 (p : Int)] 3)) w' c1 q1 n (keptN (selK R p) k) C (keptR (selK R p) k R) ∧ Below (w2.alloc (.cells #[.int .i64 (p : Int)] 3)).heap.size (w2.alloc (.cells #[.int .i64 (p : Int)] 3)) w') :=
            keep_gen 32 #[.pointer (some ⟨w2.heap.size, 0, none⟩)] (fun _ W => Below (w2.alloc (.cells #[.int .i64 (p : Int)] 3)).heap.size (w2.alloc (.cells #[.int .i64 (p : Int)] 3)) W) (selK R p) (.slice ca n ccap) (.slice qa k qcap) n k C R (w2.alloc (.cells #[.int .i64 (p : Int)] 3))
              (Below.refl _ _) (fun _ W W' _ h1 h2 => h1.trans h2) (HC.out _ HBA.out) HFN.out ⟨_, _, rfl⟩ (fun _ W h => HQR.out W (HBA.out.trans (h.mono HBA.out.size))) hm6 HG.out (fun _ _ => rfl)
              (fun i W u hi hz h hu => by
                rw [HLEN.out i hi] at hu
                refine (select1_is u n p w2.heap.size (R i).at_ W hu hp (Nat.lt_of_lt_of_le (by simp) h.size) ((h.cell (p := ⟨w2.heap.size, 0, none⟩) (by simp)).trans (by simp))).mono ?_
                rintro e w' ⟨rfl, rfl⟩
                exact ⟨rfl, h, Upper.of (Below.refl _ _), by rw [HLEN.out i hi]; exact hu⟩)
          go_wp2_with (first | (go_at_call 31; refine CK.out.mono ?_; rintro e w7 ⟨c7, q7, rfl, hf7, hb7⟩; have HFR : Hid (FreshRel (w2.alloc (.cells #[.int .i64 (p : Int)] 3)) w7 c7 q7 n (keptN (selK R p) k) C (keptR (selK R p) k R)) := hf7; obtain ⟨⟨a3, k3, rfl, _⟩, ⟨b3, l3, rfl, _⟩⟩ := hf7 w7 (Nat.le_refl _) (fun _ _ _ => rfl); have HB7 : Hid (Below (w.heap.size + 2) ((w.alloc (.cells #[.slice ca n ccap, .slice qa k qcap] 25)).alloc (.cells #[.slice none 0 0, .slice none 0 0] 25)) w7) := (HB1.out.alloc (by omega) _).trans (hb7.mono (by simp; omega)); clear x0 x1 x2 x3 x4 x5 x6 x7; obtain ⟨x0, x1, x2, x3, x4, x5, x6⟩ := box2r HB7.out; clear hf7 hb7))
          refine bodyPost_ret (v := .tuple #[.agg #[.slice a3 n k3, .slice b3 (keptN (selK R p) k) l3], .int .i64 0]) (by simp [results, Tryd.results12, go_sem, x2, x3]) rfl ⟨_, _, by rw [HF0.out], ?_, ((HW.out HB7.out).setCell (by simp <;> omega) _).setCell (by simp <;> omega) _⟩
          rw [HF0.out]
          exact fun W' hs hb => HFR.out W' (by simpa using hs) (fun b h1 h2 => by
            have hb1 := hb b (by simp at h1; omega) (by simpa using h2)
            rw [hb1]
            simp at h1
            rw [Below.heap_setCell _ _ _ _ (by simp; omega), Below.heap_setCell _ _ _ _ (by simp; omega)])
  · have HFF : Hid (selF C n R m s = relF C n R m) := selF_bad h0
    have HNZ : Hid (¬ relF C n R m = 0) := h0
    have h1 : (relF C n R m != 0) = true := by simpa using h0
    clear h0
    generalize selF C n R m s = F at *
    generalize relF C n R m = G at *
    go_enter Tryd.func12, Tryd.ntmps12
    go_wp2_with (first | (go_at_call 20; refine (C1.out _ _).mono ?_; rintro e w1 ⟨rfl, hb1⟩; have HB1 : Hid (Below (w.heap.size + 2) _ w1) := hb1; obtain ⟨x0, x1, x2, x3, x4, x5, x6⟩ := box2r hb1; clear hb1))
    refine bodyPost_ret (v := .tuple #[.agg #[.slice none 0 0, .slice none 0 0], .int .i64 G]) (by simp [results, Tryd.results12, go_sem, x2, x3]) rfl ⟨_, _, by rw [HFF.out], ?_, (((HW.out HB1.out)).setCell (by simp <;> omega) _).setCell (by simp <;> omega) _⟩
    rw [HFF.out, okN, if_neg HNZ.out, okN, if_neg HNZ.out]; exact FreshRel.nil _ _ _ _
end Go.Proofs.YtcfjgoconmgpcaaDoor
