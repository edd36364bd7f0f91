/-
  CONTRACTS of rel.Rank, where the columns that are made are refused.
-/
import Derived.Test.YtkcejelmohameaaGreatDoorRlRank3
set_option linter.unusedVariables false
namespace Go.Proofs.YtkcejelmohameaaGreatDoor
set_option maxRecDepth 100000
open Go.RowKit Go.WideShapes

set_option maxHeartbeats 6400000 in
theorem rank_none_made (c q l : Value) (name : ByteArray) (n m ko : Nat) (C O : Nat → ByteArray) (R : Nat → Row) (w : World) (hc : StrsIs w c n C) (hq : RowsIs w q m R) (hf : StrsFine n C) (hg : RowsFine m R) (hl : StrsIs w l ko O) (hfl : StrsFine ko O) (hT : Tabs w) (h0 : relF C n R m = 0) (hfo : foundB C n O ko = true) (hnm : name.size ≤ maxLen) (hmd : ¬ madeF (colsR C n name).at_ (n + 1) m = 0) :
    Calls Tryz.prog 106 #[.agg #[c, q], .string name, l, .string ⟨#[]⟩] w fun e w' => e = .returned (.tuple #[.agg #[.slice none 0 0, .slice none 0 0], .int .i64 (madeF (colsR C n name).at_ (n + 1) m)]) ∧ Below w.heap.size w w' := by
  have HW : Hid (∀ {W : World} {o o' : Obj}, Below (w.heap.size + 2) ((w.alloc o).alloc o') W → Below w.heap.size w W) := fun h => (below_two _ _).trans (h.mono (by omega))
  have C1 : Hid (∀ o o', Calls Tryz.prog 93 #[.agg #[c, q]] ((w.alloc o).alloc o') fun e w' => e = .returned (.int .i64 0) ∧ Below (w.heap.size + 2) ((w.alloc o).alloc o') w') := fun o o' => by
    have h := relCheck_is c q n m C R _ (hc.below (below_two o o')) (hq.below (below_two o o')) hf hg (Utf8Tabs_below hT (below_two o o'))
    rw [h0] at h
    rwa [show ((w.alloc o).alloc o').heap.size = w.heap.size + 2 by simp] at h
  have CC : Hid (∀ W, Below w.heap.size w W → Calls Tryz.prog 143 #[c, l] W fun e w' => ∃ v, e = .returned (.tuple #[v, .int .i64 0]) ∧ IntsIs w' v (keptN (firstB (prP C n O)) ko) (dedP (prP C n O) ko) ∧ (∃ a' c', v = .slice a' (keptN (firstB (prP C n O)) ko) c') ∧ Below W.heap.size W w') := fun W hW => columns_yes c l n ko C O (prP C n O) W (hc.below hW) (hl.below hW) (fun i hi => (found_yes hfo i hi).1) hfl.1
  have HPN : Hid (∀ i, i < ko → prP C n O i < n) := fun i hi => (found_yes hfo i hi).2
  have hm6 : m ≤ 1000000 := (relF_zero h0).2.1
  have hm4 : m ≤ 4000000 := by omega
  have hn8 : n ≤ 8 := colsF_le (relF_zero h0).1
  have HLEN : Hid (∀ i, i < m → (R i).len = n) := row_len h0
  have HFIT : Hid (∀ i, i < m → ∀ t, t < n → fitI ((R i).at_ t)) := fit_rel h0 hg
  have HC : Hid (∀ W, Below w.heap.size w W → StrsIs W c n C) := fun W hW => hc.below hW
  have HQR : Hid (∀ W, Below w.heap.size w W → RowsIs W q m R) := fun W hW => hq.below hW
  have HG : Hid (∀ i, i < m → (R i).len * 32 ≤ 140737488351232) := fun i hi => (hg.2 i hi).1
  have HFS : Hid (∀ i, i < n + 1 → ((colsR C n name).at_ i).size ≤ maxLen) := fun i hi => by
    show (if i < n then C i else name).size ≤ maxLen
    split
    · exact hf.2 i (by assumption)
    · exact hnm
  have CM : Hid (∀ W v, StrsIs W v (n + 1) (colsR C n name).at_ → Calls Tryz.prog 119 #[v, .int .i64 (m : Int)] W fun e w' => e = .returned (.int .i64 (madeF (colsR C n name).at_ (n + 1) m)) ∧ w' = W) := fun W v h => checkMade_is v (n + 1) m _ W h HFS.out (by unfold maxLen; omega)
  have hF1 : (madeF (colsR C n name).at_ (n + 1) m != 0) = true := by simpa using hmd
  obtain ⟨ZI, hZI, hmk⟩ := make_intsO m hm6
  obtain ⟨qa, qcap, rfl, _, _, _, q3⟩ := hq
  have HQ : Hid (∀ W i, Below w.heap.size w W → i < m → ∃ b off u, qa = some ⟨b, off, none⟩ ∧ b < w.heap.size ∧ W.cell? ⟨b, off + i, none⟩ = some u ∧ ItsIs W u (R i).len (R i).at_) := fun W i hW hi => by
    obtain ⟨b, off, e1, e2, e3⟩ := q3 (by omega)
    obtain ⟨u, e4, e5⟩ := e3 i hi
    exact ⟨b, off, u, e1, e2, (hW.cell (p := ⟨b, off + i, none⟩) e2).trans e4, e5.below hW⟩
  obtain ⟨ca, ccap, rfl, _⟩ := hc
  obtain ⟨la, lcap, rfl, _⟩ := hl
  clear hf hg hT hfl q3 h0 hfo hmd
  generalize prP C n O = P at *
  have HPD : Hid (∀ i, i < keptN (firstB P) ko → dedP P ko i < n) := fun i hi => HPN.out _ (keptAt_mem (m := ko) (Nat.le_refl _) hi).1
  have CO : Hid (∀ W pv, Below w.heap.size w W → IntsIs W pv (keptN (firstB P) ko) (dedP P ko) → Calls Tryz.prog 149 #[.slice qa m qcap, pv] W fun e w' => ∃ v, e = .returned v ∧ IntsFrom w' W.heap.size v m (ordA (fun i t => (R i).at_ (P t)) ko m) ∧ (∃ a c, v = .slice a m c) ∧ Chain W w') := fun W pv hW hpv => by
    have h := order_is (.slice qa m qcap) pv (keptN (firstB P) ko) m n (dedP P ko) R W hpv (HQR.out W hW) hm6 HPD.out HLEN.out
    rw [ordA_ded] at h
    exact h
  have HA : Hid (∀ i, i < m → ordA (fun i t => (R i).at_ (P t)) ko m i < m) := fun i hi => ordA_lt hi
  have HINJ : Hid (∀ s t, s < m → t < m → ordA (fun i t => (R i).at_ (P t)) ko m s = ordA (fun i t => (R i).at_ (P t)) ko m t → s = t) := fun s t hs ht h => ordA_inj hs ht h
  have HONTO : Hid (∀ i, i < m → ∃ t, t < m ∧ ordA (fun i t => (R i).at_ (P t)) ko m t = i) := fun i hi => ordA_onto _ _ _ _ hi
  have HRK : Hid (∀ t, t < m → cntB (fun _ => itZ) (ordA (fun i t => (R i).at_ (P t)) ko m) (t + 1) itZ = rkF (fun i t => (R i).at_ (P t)) ko (fun _ => itZ) m (ordA (fun i t => (R i).at_ (P t)) ko m t)) := fun t ht => rank_eq _ _ (fun _ => itZ) _ _ ht
  generalize rkF (fun i t => (R i).at_ (P t)) ko (fun _ => itZ) m = rk at *
  generalize ordA (fun i t => (R i).at_ (P t)) ko m = σ at *
  generalize madeF (colsR C n name).at_ (n + 1) m = F at *
  have hmf : ∀ (fn : Fn) (first cap : Array Value) (w : World), (Instr.makeFunc fn first cap).run Tryz.prog w = .ok (.func fn first cap) w := fun _ _ _ _ => rfl
  have hmm := @run_makeMap Tryz.prog
  go_enter Tryz.func106, Tryz.ntmps106
  go_wp2_with (first
    | (go_at_call 93; refine (C1.out _ _).mono ?_; rintro e w1 ⟨rfl, hb1⟩; have HB1 : Hid (Below (w.heap.size + 2) ((w.alloc (.cells #[.slice ca n ccap, .slice qa m qcap] 40)).alloc (.cells #[.slice none 0 0, .slice none 0 0] 40)) w1) := hb1; obtain ⟨x0, x1, x2, x3, x4, x5, x6⟩ := box2r hb1; clear hb1)
    | (go_at_call 143; refine (CC.out _ (HW.out HB1.out)).mono ?_; rintro e w2 ⟨v2, rfl, hi2, ⟨pa, pc, rfl⟩, hb2⟩; have HI2 : Hid (IntsIs w2 (.slice pa (keptN (firstB P) ko) pc) (keptN (firstB P) ko) (dedP P ko)) := hi2; have HB2 : Hid (Below (w.heap.size + 2) ((w.alloc (.cells #[.slice ca n ccap, .slice qa m qcap] 40)).alloc (.cells #[.slice none 0 0, .slice none 0 0] 40)) w2) := HB1.out.trans (hb2.mono (by omega)); clear x0 x1 x2 x3 x4 x5 x6; obtain ⟨x0, x1, x2, x3, x4, x5, x6⟩ := box2r HB2.out; have x7 : w.heap.size < w2.heap.size := Nat.lt_of_succ_lt x6; clear hb2 hi2))
  obtain ⟨w3, hw3⟩ : ∃ W, W = w2.alloc (.cells #[.string name] 9) := ⟨_, rfl⟩
  have h23 : Chain w2 w3 := by rw [hw3]; exact (Chain.refl _).alloc _
  have HB3 : Hid (Below (w.heap.size + 2) ((w.alloc (.cells #[.slice ca n ccap, .slice qa m qcap] 40)).alloc (.cells #[.slice none 0 0, .slice none 0 0] 40)) w3) := HB2.out.trans (Below.mono h23 (by omega))
  have HI3 : Hid (IntsIs w3 (.slice pa (keptN (firstB P) ko) pc) (keptN (firstB P) ko) (dedP P ko)) := HI2.out.below h23
  have HMO : Hid (∀ W, Chain w3 W → StrsIs W (.slice (some ⟨w2.heap.size, 0, none⟩) 1 1) 1 (fun _ => name)) := fun W h => by
    have k : StrsIs w3 (.slice (some ⟨w2.heap.size, 0, none⟩) 1 1) 1 (fun _ => name) := by rw [hw3]; exact one_litb w2 name 9 _ rfl
    exact k.below h
  have hz3 : w.heap.size + 1 + 1 < w3.heap.size := by rw [hw3]; simp; omega
  rw [← hw3]
  clear hw3 h23 HB2 HI2 x0 x1 x2 x3 x4 x5 x6 x7 hmf
  have HS : Hid (∀ W, Chain w3 W → W.cell? ⟨w.heap.size, 0, none⟩ = some (.slice ca n ccap) ∧ W.cell? ⟨w.heap.size, 1, none⟩ = some (.slice qa m qcap) ∧ w.heap.size < W.heap.size ∧ Below w.heap.size w W) := fun W h => by
    have k := HB3.out.trans (Below.mono h (by omega))
    obtain ⟨x0, x1, _, _, _, _, x6⟩ := box2r k
    exact ⟨x0, x1, by omega, HW.out k⟩
  go_region_held3 (fun W => W.cell? ⟨w.heap.size, 0, none⟩ = some (.slice ca n ccap) ∧ W.cell? ⟨w.heap.size, 1, none⟩ = some (.slice qa m qcap) ∧ w.heap.size < W.heap.size ∧ Below w.heap.size w W)
    ((refine HS.out _ ?_; repeat (first | exact Hid.out (by assumption) | exact Chain.refl _ | refine Chain.alloc ?_ _ | refine Chain.drew ?_)))
    (first
      | (go_at_call 98; refine (concatS_two w3.heap.size 0 2 (.slice ca n ccap) (.slice (some ⟨w2.heap.size, 0, none⟩) 1 1) ⟨n, C⟩ (oneT name) _ (Nat.le_refl _) (by unfold maxLen; omega) (by simp) (by simp) (by simp) ?_ ?_ ?_).mono ?_; (focus (refine HC.out _ (HS.out _ ?_).2.2.2; repeat (first | exact Hid.out (by assumption) | exact Chain.refl _ | refine Chain.alloc ?_ _ | refine Chain.drew ?_))); (focus (refine HMO.out _ ?_; repeat (first | exact Hid.out (by assumption) | exact Chain.refl _ | refine Chain.alloc ?_ _ | refine Chain.drew ?_))); (focus (show (n + 1) * 16 ≤ _; omega)); rintro e w5 ⟨v5, rfl, hs5, ⟨a5, k5, rfl⟩, hb5⟩; have HS5 : Hid (StrsIs w5 (.slice a5 (n + 1) k5) (n + 1) (colsR C n name).at_) := hs5.is; have HN5 : Hid (Chain w3 w5) := Chain.trans (by (repeat (first | exact Chain.refl _ | refine Chain.alloc ?_ _ | refine Chain.drew ?_))) hb5; clear hs5 hb5)
      | (go_at_call 119; refine (CM.out _ _ ?_).mono ?_; (focus (first | exact HS5.out | exact HS5.out.below ((Chain.refl _).drew))); rintro e w6 ⟨rfl, hw6⟩; obtain rfl := hw6))
  have HN6 : Hid (Chain w3 w6) := HN5.out
  have hz6 : w3.heap.size ≤ w6.heap.size := Below.size HN6.out
  clear HS5 HN5
  go_split_ands
  have HB6 : Hid (Below (w.heap.size + 2) ((w.alloc (.cells #[.slice ca n ccap, .slice qa m qcap] 40)).alloc (.cells #[.slice none 0 0, .slice none 0 0] 40)) w6) := HB3.out.trans (Below.mono HN6.out (by omega))
  obtain ⟨y0, y1, y2, y3, y4, y5, y6⟩ := box2r HB6.out
  go_wp2_with fail
  exact bodyPost_ret (v := .tuple #[.agg #[.slice none 0 0, .slice none 0 0], .int .i64 F]) (by simp [results, Tryz.results106, go_sem, y2, y3]) rfl ⟨rfl, ((HW.out HB6.out).setCell (by simp <;> omega) _).setCell (by simp <;> omega) _⟩
set_option maxHeartbeats 6400000 in
theorem rank_part_made (c q l : Value) (name part : ByteArray) (hpe : part.toList.isEmpty = false) (n m ko cc0 : Nat) (C O : Nat → ByteArray) (R : Nat → Row) (w : World) (hc : StrsIs w c n C) (hq : RowsIs w q m R) (hf : StrsFine n C) (hg : RowsFine m R) (hl : StrsIs w l ko O) (hfl : StrsFine ko O) (hT : Tabs w) (h0 : relF C n R m = 0) (hfo : foundB C n O ko = true) (hnm : name.size ≤ maxLen) (hmd : ¬ madeF (colsR C n name).at_ (n + 1) m = 0) (hcol : colI C n part = (cc0 : Int)) (hcc : cc0 < n) :
    Calls Tryz.prog 106 #[.agg #[c, q], .string name, l, .string part] w fun e w' => e = .returned (.tuple #[.agg #[.slice none 0 0, .slice none 0 0], .int .i64 (madeF (colsR C n name).at_ (n + 1) m)]) ∧ Below w.heap.size w w' := by
  have HW : Hid (∀ {W : World} {o o' : Obj}, Below (w.heap.size + 2) ((w.alloc o).alloc o') W → Below w.heap.size w W) := fun h => (below_two _ _).trans (h.mono (by omega))
  have C1 : Hid (∀ o o', Calls Tryz.prog 93 #[.agg #[c, q]] ((w.alloc o).alloc o') fun e w' => e = .returned (.int .i64 0) ∧ Below (w.heap.size + 2) ((w.alloc o).alloc o') w') := fun o o' => by
    have h := relCheck_is c q n m C R _ (hc.below (below_two o o')) (hq.below (below_two o o')) hf hg (Utf8Tabs_below hT (below_two o o'))
    rw [h0] at h
    rwa [show ((w.alloc o).alloc o').heap.size = w.heap.size + 2 by simp] at h
  have CC : Hid (∀ W, Below w.heap.size w W → Calls Tryz.prog 143 #[c, l] W fun e w' => ∃ v, e = .returned (.tuple #[v, .int .i64 0]) ∧ IntsIs w' v (keptN (firstB (prP C n O)) ko) (dedP (prP C n O) ko) ∧ (∃ a' c', v = .slice a' (keptN (firstB (prP C n O)) ko) c') ∧ Below W.heap.size W w') := fun W hW => columns_yes c l n ko C O (prP C n O) W (hc.below hW) (hl.below hW) (fun i hi => (found_yes hfo i hi).1) hfl.1
  have CCOL : Hid (∀ W, Below w.heap.size w W → Calls Tryz.prog 122 #[c, .string part] W fun e w' => e = .returned (.tuple #[.int .i64 (cc0 : Int), .int .i64 0]) ∧ w' = W) := fun W hW => by
    have h := column_is c n C part W (hc.below hW)
    rwa [(colF_of hcol).1, (colF_of hcol).2] at h
  have HPN : Hid (∀ i, i < ko → prP C n O i < n) := fun i hi => (found_yes hfo i hi).2
  have hm6 : m ≤ 1000000 := (relF_zero h0).2.1
  have hm4 : m ≤ 4000000 := by omega
  have hn8 : n ≤ 8 := colsF_le (relF_zero h0).1
  have HLEN : Hid (∀ i, i < m → (R i).len = n) := row_len h0
  have HFIT : Hid (∀ i, i < m → ∀ t, t < n → fitI ((R i).at_ t)) := fit_rel h0 hg
  have HC : Hid (∀ W, Below w.heap.size w W → StrsIs W c n C) := fun W hW => hc.below hW
  have HQR : Hid (∀ W, Below w.heap.size w W → RowsIs W q m R) := fun W hW => hq.below hW
  have HG : Hid (∀ i, i < m → (R i).len * 32 ≤ 140737488351232) := fun i hi => (hg.2 i hi).1
  have HFS : Hid (∀ i, i < n + 1 → ((colsR C n name).at_ i).size ≤ maxLen) := fun i hi => by
    show (if i < n then C i else name).size ≤ maxLen
    split
    · exact hf.2 i (by assumption)
    · exact hnm
  have CM : Hid (∀ W v, StrsIs W v (n + 1) (colsR C n name).at_ → Calls Tryz.prog 119 #[v, .int .i64 (m : Int)] W fun e w' => e = .returned (.int .i64 (madeF (colsR C n name).at_ (n + 1) m)) ∧ w' = W) := fun W v h => checkMade_is v (n + 1) m _ W h HFS.out (by unfold maxLen; omega)
  have hF1 : (madeF (colsR C n name).at_ (n + 1) m != 0) = true := by simpa using hmd
  obtain ⟨ZI, hZI, hmk⟩ := make_intsO m hm6
  obtain ⟨qa, qcap, rfl, _, _, _, q3⟩ := hq
  have HQ : Hid (∀ W i, Below w.heap.size w W → i < m → ∃ b off u, qa = some ⟨b, off, none⟩ ∧ b < w.heap.size ∧ W.cell? ⟨b, off + i, none⟩ = some u ∧ ItsIs W u (R i).len (R i).at_) := fun W i hW hi => by
    obtain ⟨b, off, e1, e2, e3⟩ := q3 (by omega)
    obtain ⟨u, e4, e5⟩ := e3 i hi
    exact ⟨b, off, u, e1, e2, (hW.cell (p := ⟨b, off + i, none⟩) e2).trans e4, e5.below hW⟩
  obtain ⟨ca, ccap, rfl, _⟩ := hc
  obtain ⟨la, lcap, rfl, _⟩ := hl
  clear hf hg hT hfl q3 h0 hfo hmd hcol
  generalize prP C n O = P at *
  have HPD : Hid (∀ i, i < keptN (firstB P) ko → dedP P ko i < n) := fun i hi => HPN.out _ (keptAt_mem (m := ko) (Nat.le_refl _) hi).1
  have CO : Hid (∀ W pv, Below w.heap.size w W → IntsIs W pv (keptN (firstB P) ko) (dedP P ko) → Calls Tryz.prog 149 #[.slice qa m qcap, pv] W fun e w' => ∃ v, e = .returned v ∧ IntsFrom w' W.heap.size v m (ordA (fun i t => (R i).at_ (P t)) ko m) ∧ (∃ a c, v = .slice a m c) ∧ Chain W w') := fun W pv hW hpv => by
    have h := order_is (.slice qa m qcap) pv (keptN (firstB P) ko) m n (dedP P ko) R W hpv (HQR.out W hW) hm6 HPD.out HLEN.out
    rw [ordA_ded] at h
    exact h
  have HA : Hid (∀ i, i < m → ordA (fun i t => (R i).at_ (P t)) ko m i < m) := fun i hi => ordA_lt hi
  have HINJ : Hid (∀ s t, s < m → t < m → ordA (fun i t => (R i).at_ (P t)) ko m s = ordA (fun i t => (R i).at_ (P t)) ko m t → s = t) := fun s t hs ht h => ordA_inj hs ht h
  have HONTO : Hid (∀ i, i < m → ∃ t, t < m ∧ ordA (fun i t => (R i).at_ (P t)) ko m t = i) := fun i hi => ordA_onto _ _ _ _ hi
  have HRK : Hid (∀ t, t < m → cntB (fun i => (R i).at_ cc0) (ordA (fun i t => (R i).at_ (P t)) ko m) (t + 1) ((R (ordA (fun i t => (R i).at_ (P t)) ko m t)).at_ cc0) = rkF (fun i t => (R i).at_ (P t)) ko (fun i => (R i).at_ cc0) m (ordA (fun i t => (R i).at_ (P t)) ko m t)) := fun t ht => rank_eq _ _ (fun i => (R i).at_ cc0) _ _ ht
  generalize rkF (fun i t => (R i).at_ (P t)) ko (fun i => (R i).at_ cc0) m = rk at *
  generalize ordA (fun i t => (R i).at_ (P t)) ko m = σ at *
  obtain ⟨pz, hpz⟩ : ∃ pz : Nat → It, pz = fun i => (R i).at_ cc0 := ⟨_, rfl⟩
  have HPZ : Hid (∀ i, pz i = (R i).at_ cc0) := fun i => by rw [hpz]
  rw [← hpz] at HRK
  have HRK2 : Hid (∀ t, t < m → cntB pz σ (t + 1) (pz (σ t)) = rk (σ t)) := fun t ht => by rw [HPZ.out (σ t)]; exact HRK.out t ht
  clear hpz HRK
  generalize madeF (colsR C n name).at_ (n + 1) m = F at *
  have hmf : ∀ (fn : Fn) (first cap : Array Value) (w : World), (Instr.makeFunc fn first cap).run Tryz.prog w = .ok (.func fn first cap) w := fun _ _ _ _ => rfl
  have hmm := @run_makeMap Tryz.prog
  go_enter Tryz.func106, Tryz.ntmps106
  go_wp2_with (first
    | (go_at_call 93; refine (C1.out _ _).mono ?_; rintro e w1 ⟨rfl, hb1⟩; have HB1 : Hid (Below (w.heap.size + 2) ((w.alloc (.cells #[.slice ca n ccap, .slice qa m qcap] 40)).alloc (.cells #[.slice none 0 0, .slice none 0 0] 40)) w1) := hb1; obtain ⟨x0, x1, x2, x3, x4, x5, x6⟩ := box2r hb1; clear hb1)
    | (go_at_call 143; refine (CC.out _ (HW.out HB1.out)).mono ?_; rintro e w2 ⟨v2, rfl, hi2, ⟨pa, pc, rfl⟩, hb2⟩; have HI2 : Hid (IntsIs w2 (.slice pa (keptN (firstB P) ko) pc) (keptN (firstB P) ko) (dedP P ko)) := hi2; have HB2 : Hid (Below (w.heap.size + 2) ((w.alloc (.cells #[.slice ca n ccap, .slice qa m qcap] 40)).alloc (.cells #[.slice none 0 0, .slice none 0 0] 40)) w2) := HB1.out.trans (hb2.mono (by omega)); clear x0 x1 x2 x3 x4 x5 x6; obtain ⟨x0, x1, x2, x3, x4, x5, x6⟩ := box2r HB2.out; have x7 : w.heap.size < w2.heap.size := Nat.lt_of_succ_lt x6; clear hb2 hi2)
    | (go_at_call 122; refine (CCOL.out _ (HW.out HB2.out)).mono ?_; rintro e wc ⟨rfl, hwc⟩; obtain rfl := hwc.symm))
  obtain ⟨w3, hw3⟩ : ∃ W, W = (w2.alloc (.cells #[.int .i64 (cc0 : Int)] 3)).alloc (.cells #[.string name] 9) := ⟨_, rfl⟩
  have h23 : Chain w2 w3 := by rw [hw3]; exact ((Chain.refl _).alloc _).alloc _
  have HCB : Hid (∀ W, Chain w3 W → W.cell? ⟨w2.heap.size, 0, none⟩ = some (.int .i64 (cc0 : Int)) ∧ w2.heap.size < W.heap.size) := fun W h => by
    have k1 : w3.cell? ⟨w2.heap.size, 0, none⟩ = some (.int .i64 (cc0 : Int)) := by rw [hw3]; simp [go_sem]
    have k2 : w2.heap.size < w3.heap.size := by rw [hw3]; simp; omega
    exact ⟨(Below.cell h (p := ⟨w2.heap.size, 0, none⟩) k2).trans k1, Nat.lt_of_lt_of_le k2 (Below.size h)⟩
  have HB3 : Hid (Below (w.heap.size + 2) ((w.alloc (.cells #[.slice ca n ccap, .slice qa m qcap] 40)).alloc (.cells #[.slice none 0 0, .slice none 0 0] 40)) w3) := HB2.out.trans (Below.mono h23 (by omega))
  have HI3 : Hid (IntsIs w3 (.slice pa (keptN (firstB P) ko) pc) (keptN (firstB P) ko) (dedP P ko)) := HI2.out.below h23
  have HMO : Hid (∀ W, Chain w3 W → StrsIs W (.slice (some ⟨w2.heap.size + 1, 0, none⟩) 1 1) 1 (fun _ => name)) := fun W h => by
    have k : StrsIs w3 (.slice (some ⟨w2.heap.size + 1, 0, none⟩) 1 1) 1 (fun _ => name) := by rw [hw3]; exact one_litb (w2.alloc (.cells #[.int .i64 (cc0 : Int)] 3)) name 9 _ (by simp)
    exact k.below h
  have hz3 : w.heap.size + 1 + 1 < w3.heap.size := by rw [hw3]; simp; omega
  rw [← hw3]
  clear hw3 h23 HB2 HI2 x0 x1 x2 x3 x4 x5 x6 x7 hmf
  have HS : Hid (∀ W, Chain w3 W → W.cell? ⟨w.heap.size, 0, none⟩ = some (.slice ca n ccap) ∧ W.cell? ⟨w.heap.size, 1, none⟩ = some (.slice qa m qcap) ∧ w.heap.size < W.heap.size ∧ Below w.heap.size w W) := fun W h => by
    have k := HB3.out.trans (Below.mono h (by omega))
    obtain ⟨x0, x1, _, _, _, _, x6⟩ := box2r k
    exact ⟨x0, x1, by omega, HW.out k⟩
  go_region_held3 (fun W => W.cell? ⟨w.heap.size, 0, none⟩ = some (.slice ca n ccap) ∧ W.cell? ⟨w.heap.size, 1, none⟩ = some (.slice qa m qcap) ∧ w.heap.size < W.heap.size ∧ Below w.heap.size w W)
    ((refine HS.out _ ?_; repeat (first | exact Hid.out (by assumption) | exact Chain.refl _ | refine Chain.alloc ?_ _ | refine Chain.drew ?_)))
    (first
      | (go_at_call 98; refine (concatS_two w3.heap.size 0 2 (.slice ca n ccap) (.slice (some ⟨w2.heap.size + 1, 0, none⟩) 1 1) ⟨n, C⟩ (oneT name) _ (Nat.le_refl _) (by unfold maxLen; omega) (by simp) (by simp) (by simp) ?_ ?_ ?_).mono ?_; (focus (refine HC.out _ (HS.out _ ?_).2.2.2; repeat (first | exact Hid.out (by assumption) | exact Chain.refl _ | refine Chain.alloc ?_ _ | refine Chain.drew ?_))); (focus (refine HMO.out _ ?_; repeat (first | exact Hid.out (by assumption) | exact Chain.refl _ | refine Chain.alloc ?_ _ | refine Chain.drew ?_))); (focus (show (n + 1) * 16 ≤ _; omega)); rintro e w5 ⟨v5, rfl, hs5, ⟨a5, k5, rfl⟩, hb5⟩; have HS5 : Hid (StrsIs w5 (.slice a5 (n + 1) k5) (n + 1) (colsR C n name).at_) := hs5.is; have HN5 : Hid (Chain w3 w5) := Chain.trans (by (repeat (first | exact Chain.refl _ | refine Chain.alloc ?_ _ | refine Chain.drew ?_))) hb5; clear hs5 hb5)
      | (go_at_call 119; refine (CM.out _ _ ?_).mono ?_; (focus (first | exact HS5.out | exact HS5.out.below ((Chain.refl _).drew))); rintro e w6 ⟨rfl, hw6⟩; obtain rfl := hw6))
  have HN6 : Hid (Chain w3 w6) := HN5.out
  have hz6 : w3.heap.size ≤ w6.heap.size := Below.size HN6.out
  clear HS5 HN5
  go_split_ands
  have HB6 : Hid (Below (w.heap.size + 2) ((w.alloc (.cells #[.slice ca n ccap, .slice qa m qcap] 40)).alloc (.cells #[.slice none 0 0, .slice none 0 0] 40)) w6) := HB3.out.trans (Below.mono HN6.out (by omega))
  obtain ⟨y0, y1, y2, y3, y4, y5, y6⟩ := box2r HB6.out
  go_wp2_with fail
  exact bodyPost_ret (v := .tuple #[.agg #[.slice none 0 0, .slice none 0 0], .int .i64 F]) (by simp [results, Tryz.results106, go_sem, y2, y3]) rfl ⟨rfl, ((HW.out HB6.out).setCell (by simp <;> omega) _).setCell (by simp <;> omega) _⟩
end Go.Proofs.YtkcejelmohameaaGreatDoor
