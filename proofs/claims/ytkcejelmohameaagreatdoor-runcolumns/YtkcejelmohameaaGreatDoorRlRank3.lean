/-
  CONTRACT of rel.Rank with parts (whatever the part's column is called), where nothing is refused.
-/
import Derived.Test.YtkcejelmohameaaGreatDoorRlRank
set_option linter.unusedVariables false
namespace Go.Proofs.YtkcejelmohameaaGreatDoor
set_option maxRecDepth 100000
open Go.RowKit Go.WideShapes

set_option maxHeartbeats 800000 in
theorem rank2_is (u : Value) (n cc0 g : Nat) (X : Nat → It) (w : World) (hu : ItsIs w u n X) (hcc : cc0 < n) (hg : w.cell? ⟨g, 0, none⟩ = some (.int .i64 (cc0 : Int))) (hgz : g < w.heap.size) : Calls Tryz.prog 148 #[u, .pointer (some ⟨g, 0, none⟩)] w fun e w' => e = .returned (itV (X cc0)) ∧ Chain w w' := by
  obtain ⟨a, cap, rfl, h1, h2, _, h3⟩ := hu
  obtain ⟨b, off, rfl, hb, h4⟩ := h3 (by omega)
  obtain ⟨e0, e1, e2⟩ := h4 cc0 hcc
  have hci : (cc0 : Int) < (n : Int) := by omega
  clear h3 h4
  unfold itV
  go_enter Tryz.func148, Tryz.ntmps148
  go_wp2
  refine bodyPost_ret (v := .agg #[.int .i64 (X cc0).kind, .int .i64 (X cc0).n, .string (X cc0).s]) (by simp [results, Tryz.results148, go_sem]) rfl ⟨rfl, ?_⟩
  repeat (first | exact Chain.refl _ | refine Chain.alloc ?_ _ | refine Chain.setCell ?_ (by simp) _)
set_option maxHeartbeats 6400000 in
theorem rank_partG (c q l : Value) (name part : ByteArray) (hpe : part.toList.isEmpty = false) (n m ko cc0 : Nat) (C O : Nat → ByteArray) (R : Nat → Row) (w : World) (hc : StrsIs w c n C) (hq : RowsIs w q m R) (hf : StrsFine n C) (hg : RowsFine m R) (hl : StrsIs w l ko O) (hfl : StrsFine ko O) (hT : Tabs w) (h0 : relF C n R m = 0) (hfo : foundB C n O ko = true) (hnm : name.size ≤ maxLen) (hmd : madeF (colsR C n name).at_ (n + 1) m = 0) (hcol : colI C n part = (cc0 : Int)) (hcc : cc0 < n) :
    Calls Tryz.prog 106 #[.agg #[c, q], .string name, l, .string part] w fun e w' => ∃ c1 q1, e = .returned (.tuple #[.agg #[c1, q1], .int .i64 0]) ∧ FreshRel w w' c1 q1 (n + 1) m (colsR C n name).at_ (rkR R (rkF (fun i t => (R i).at_ (prP C n O t)) ko (fun i => (R i).at_ cc0) m)) ∧ Below w.heap.size w w' := by
  have HW : Hid (∀ {W : World} {o o' : Obj}, Below (w.heap.size + 2) ((w.alloc o).alloc o') W → Below w.heap.size w W) := fun h => (below_two _ _).trans (h.mono (by omega))
  have C1 : Hid (∀ o o', Calls Tryz.prog 93 #[.agg #[c, q]] ((w.alloc o).alloc o') fun e w' => e = .returned (.int .i64 0) ∧ Below (w.heap.size + 2) ((w.alloc o).alloc o') w') := fun o o' => by
    have h := relCheck_is c q n m C R _ (hc.below (below_two o o')) (hq.below (below_two o o')) hf hg (Utf8Tabs_below hT (below_two o o'))
    rw [h0] at h
    rwa [show ((w.alloc o).alloc o').heap.size = w.heap.size + 2 by simp] at h
  have CC : Hid (∀ W, Below w.heap.size w W → Calls Tryz.prog 143 #[c, l] W fun e w' => ∃ v, e = .returned (.tuple #[v, .int .i64 0]) ∧ IntsIs w' v (keptN (firstB (prP C n O)) ko) (dedP (prP C n O) ko) ∧ (∃ a' c', v = .slice a' (keptN (firstB (prP C n O)) ko) c') ∧ Below W.heap.size W w') := fun W hW => columns_yes c l n ko C O (prP C n O) W (hc.below hW) (hl.below hW) (fun i hi => (found_yes hfo i hi).1) hfl.1
  have CCOL : Hid (∀ W, Below w.heap.size w W → Calls Tryz.prog 122 #[c, .string part] W fun e w' => e = .returned (.tuple #[.int .i64 (cc0 : Int), .int .i64 0]) ∧ w' = W) := fun W hW => by
    have h := column_is c n C part W (hc.below hW)
    rwa [(colF_of hcol).1, (colF_of hcol).2] at h
  have HPN : Hid (∀ i, i < ko → prP C n O i < n) := fun i hi => (found_yes hfo i hi).2
  have hm6 : m ≤ 1000000 := (relF_zero h0).2.1
  have hm4 : m ≤ 4000000 := by omega
  have hn8 : n ≤ 8 := colsF_le (relF_zero h0).1
  have HLEN : Hid (∀ i, i < m → (R i).len = n) := row_len h0
  have HFIT : Hid (∀ i, i < m → ∀ t, t < n → fitI ((R i).at_ t)) := fit_rel h0 hg
  have HC : Hid (∀ W, Below w.heap.size w W → StrsIs W c n C) := fun W hW => hc.below hW
  have HQR : Hid (∀ W, Below w.heap.size w W → RowsIs W q m R) := fun W hW => hq.below hW
  have HG : Hid (∀ i, i < m → (R i).len * 32 ≤ 140737488351232) := fun i hi => (hg.2 i hi).1
  have HFS : Hid (∀ i, i < n + 1 → ((colsR C n name).at_ i).size ≤ maxLen) := fun i hi => by
    show (if i < n then C i else name).size ≤ maxLen
    split
    · exact hf.2 i (by assumption)
    · exact hnm
  have CM : Hid (∀ W v, StrsIs W v (n + 1) (colsR C n name).at_ → Calls Tryz.prog 119 #[v, .int .i64 (m : Int)] W fun e w' => e = .returned (.int .i64 0) ∧ w' = W) := fun W v h => by
    have h := checkMade_is v (n + 1) m _ W h HFS.out (by unfold maxLen; omega)
    rwa [hmd] at h
  obtain ⟨ZI, hZI, hmk⟩ := make_intsO m hm6
  obtain ⟨qa, qcap, rfl, _, _, _, q3⟩ := hq
  have HQ : Hid (∀ W i, Below w.heap.size w W → i < m → ∃ b off u, qa = some ⟨b, off, none⟩ ∧ b < w.heap.size ∧ W.cell? ⟨b, off + i, none⟩ = some u ∧ ItsIs W u (R i).len (R i).at_) := fun W i hW hi => by
    obtain ⟨b, off, e1, e2, e3⟩ := q3 (by omega)
    obtain ⟨u, e4, e5⟩ := e3 i hi
    exact ⟨b, off, u, e1, e2, (hW.cell (p := ⟨b, off + i, none⟩) e2).trans e4, e5.below hW⟩
  obtain ⟨ca, ccap, rfl, _⟩ := hc
  obtain ⟨la, lcap, rfl, _⟩ := hl
  clear hf hg hT hfl q3 h0 hfo hmd hcol
  generalize prP C n O = P at *
  have HPD : Hid (∀ i, i < keptN (firstB P) ko → dedP P ko i < n) := fun i hi => HPN.out _ (keptAt_mem (m := ko) (Nat.le_refl _) hi).1
  have CO : Hid (∀ W pv, Below w.heap.size w W → IntsIs W pv (keptN (firstB P) ko) (dedP P ko) → Calls Tryz.prog 149 #[.slice qa m qcap, pv] W fun e w' => ∃ v, e = .returned v ∧ IntsFrom w' W.heap.size v m (ordA (fun i t => (R i).at_ (P t)) ko m) ∧ (∃ a c, v = .slice a m c) ∧ Chain W w') := fun W pv hW hpv => by
    have h := order_is (.slice qa m qcap) pv (keptN (firstB P) ko) m n (dedP P ko) R W hpv (HQR.out W hW) hm6 HPD.out HLEN.out
    rw [ordA_ded] at h
    exact h
  have HA : Hid (∀ i, i < m → ordA (fun i t => (R i).at_ (P t)) ko m i < m) := fun i hi => ordA_lt hi
  have HINJ : Hid (∀ s t, s < m → t < m → ordA (fun i t => (R i).at_ (P t)) ko m s = ordA (fun i t => (R i).at_ (P t)) ko m t → s = t) := fun s t hs ht h => ordA_inj hs ht h
  have HONTO : Hid (∀ i, i < m → ∃ t, t < m ∧ ordA (fun i t => (R i).at_ (P t)) ko m t = i) := fun i hi => ordA_onto _ _ _ _ hi
  have HRK : Hid (∀ t, t < m → cntB (fun i => (R i).at_ cc0) (ordA (fun i t => (R i).at_ (P t)) ko m) (t + 1) ((R (ordA (fun i t => (R i).at_ (P t)) ko m t)).at_ cc0) = rkF (fun i t => (R i).at_ (P t)) ko (fun i => (R i).at_ cc0) m (ordA (fun i t => (R i).at_ (P t)) ko m t)) := fun t ht => rank_eq _ _ (fun i => (R i).at_ cc0) _ _ ht
  generalize rkF (fun i t => (R i).at_ (P t)) ko (fun i => (R i).at_ cc0) m = rk at *
  generalize ordA (fun i t => (R i).at_ (P t)) ko m = σ at *
  obtain ⟨pz, hpz⟩ : ∃ pz : Nat → It, pz = fun i => (R i).at_ cc0 := ⟨_, rfl⟩
  have HPZ : Hid (∀ i, pz i = (R i).at_ cc0) := fun i => by rw [hpz]
  rw [← hpz] at HRK
  have HRK2 : Hid (∀ t, t < m → cntB pz σ (t + 1) (pz (σ t)) = rk (σ t)) := fun t ht => by rw [HPZ.out (σ t)]; exact HRK.out t ht
  clear hpz HRK
  have hmf : ∀ (fn : Fn) (first cap : Array Value) (w : World), (Instr.makeFunc fn first cap).run Tryz.prog w = .ok (.func fn first cap) w := fun _ _ _ _ => rfl
  have hmm := @run_makeMap Tryz.prog
  go_enter Tryz.func106, Tryz.ntmps106
  go_wp2_with (first
    | (go_at_call 93; refine (C1.out _ _).mono ?_; rintro e w1 ⟨rfl, hb1⟩; have HB1 : Hid (Below (w.heap.size + 2) ((w.alloc (.cells #[.slice ca n ccap, .slice qa m qcap] 40)).alloc (.cells #[.slice none 0 0, .slice none 0 0] 40)) w1) := hb1; obtain ⟨x0, x1, x2, x3, x4, x5, x6⟩ := box2r hb1; clear hb1)
    | (go_at_call 143; refine (CC.out _ (HW.out HB1.out)).mono ?_; rintro e w2 ⟨v2, rfl, hi2, ⟨pa, pc, rfl⟩, hb2⟩; have HI2 : Hid (IntsIs w2 (.slice pa (keptN (firstB P) ko) pc) (keptN (firstB P) ko) (dedP P ko)) := hi2; have HB2 : Hid (Below (w.heap.size + 2) ((w.alloc (.cells #[.slice ca n ccap, .slice qa m qcap] 40)).alloc (.cells #[.slice none 0 0, .slice none 0 0] 40)) w2) := HB1.out.trans (hb2.mono (by omega)); clear x0 x1 x2 x3 x4 x5 x6; obtain ⟨x0, x1, x2, x3, x4, x5, x6⟩ := box2r HB2.out; have x7 : w.heap.size < w2.heap.size := Nat.lt_of_succ_lt x6; clear hb2 hi2)
    | (go_at_call 122; refine (CCOL.out _ (HW.out HB2.out)).mono ?_; rintro e wc ⟨rfl, hwc⟩; obtain rfl := hwc.symm))
  obtain ⟨w3, hw3⟩ : ∃ W, W = (w2.alloc (.cells #[.int .i64 (cc0 : Int)] 3)).alloc (.cells #[.string name] 9) := ⟨_, rfl⟩
  have h23 : Chain w2 w3 := by rw [hw3]; exact ((Chain.refl _).alloc _).alloc _
  have HCB : Hid (∀ W, Chain w3 W → W.cell? ⟨w2.heap.size, 0, none⟩ = some (.int .i64 (cc0 : Int)) ∧ w2.heap.size < W.heap.size) := fun W h => by
    have k1 : w3.cell? ⟨w2.heap.size, 0, none⟩ = some (.int .i64 (cc0 : Int)) := by rw [hw3]; simp [go_sem]
    have k2 : w2.heap.size < w3.heap.size := by rw [hw3]; simp; omega
    exact ⟨(Below.cell h (p := ⟨w2.heap.size, 0, none⟩) k2).trans k1, Nat.lt_of_lt_of_le k2 (Below.size h)⟩
  have HB3 : Hid (Below (w.heap.size + 2) ((w.alloc (.cells #[.slice ca n ccap, .slice qa m qcap] 40)).alloc (.cells #[.slice none 0 0, .slice none 0 0] 40)) w3) := HB2.out.trans (Below.mono h23 (by omega))
  have HI3 : Hid (IntsIs w3 (.slice pa (keptN (firstB P) ko) pc) (keptN (firstB P) ko) (dedP P ko)) := HI2.out.below h23
  have HMO : Hid (∀ W, Chain w3 W → StrsIs W (.slice (some ⟨w2.heap.size + 1, 0, none⟩) 1 1) 1 (fun _ => name)) := fun W h => by
    have k : StrsIs w3 (.slice (some ⟨w2.heap.size + 1, 0, none⟩) 1 1) 1 (fun _ => name) := by rw [hw3]; exact one_litb (w2.alloc (.cells #[.int .i64 (cc0 : Int)] 3)) name 9 _ (by simp)
    exact k.below h
  have hz3 : w.heap.size + 1 + 1 < w3.heap.size := by rw [hw3]; simp; omega
  rw [← hw3]
  clear hw3 h23 HB2 HI2 x0 x1 x2 x3 x4 x5 x6 x7 hmf
  have HS : Hid (∀ W, Chain w3 W → W.cell? ⟨w.heap.size, 0, none⟩ = some (.slice ca n ccap) ∧ W.cell? ⟨w.heap.size, 1, none⟩ = some (.slice qa m qcap) ∧ w.heap.size < W.heap.size ∧ Below w.heap.size w W) := fun W h => by
    have k := HB3.out.trans (Below.mono h (by omega))
    obtain ⟨x0, x1, _, _, _, _, x6⟩ := box2r k
    exact ⟨x0, x1, by omega, HW.out k⟩
  go_region_held3 (fun W => W.cell? ⟨w.heap.size, 0, none⟩ = some (.slice ca n ccap) ∧ W.cell? ⟨w.heap.size, 1, none⟩ = some (.slice qa m qcap) ∧ w.heap.size < W.heap.size ∧ Below w.heap.size w W)
    ((refine HS.out _ ?_; repeat (first | exact Hid.out (by assumption) | exact Chain.refl _ | refine Chain.alloc ?_ _ | refine Chain.drew ?_)))
    (first
      | (go_at_call 98; refine (concatS_two w3.heap.size 0 2 (.slice ca n ccap) (.slice (some ⟨w2.heap.size + 1, 0, none⟩) 1 1) ⟨n, C⟩ (oneT name) _ (Nat.le_refl _) (by unfold maxLen; omega) (by simp) (by simp) (by simp) ?_ ?_ ?_).mono ?_; (focus (refine HC.out _ (HS.out _ ?_).2.2.2; repeat (first | exact Hid.out (by assumption) | exact Chain.refl _ | refine Chain.alloc ?_ _ | refine Chain.drew ?_))); (focus (refine HMO.out _ ?_; repeat (first | exact Hid.out (by assumption) | exact Chain.refl _ | refine Chain.alloc ?_ _ | refine Chain.drew ?_))); (focus (show (n + 1) * 16 ≤ _; omega)); rintro e w5 ⟨v5, rfl, hs5, ⟨a5, k5, rfl⟩, hb5⟩; have HS5 : Hid (StrsIs w5 (.slice a5 (n + 1) k5) (n + 1) (colsR C n name).at_) := hs5.is; have HN5 : Hid (Chain w3 w5) := Chain.trans (by (repeat (first | exact Chain.refl _ | refine Chain.alloc ?_ _ | refine Chain.drew ?_))) hb5; clear hs5 hb5)
      | (go_at_call 119; refine (CM.out _ _ ?_).mono ?_; (focus (first | exact HS5.out | exact HS5.out.below ((Chain.refl _).drew))); rintro e w6 ⟨rfl, hw6⟩; obtain rfl := hw6))
  have HN6 : Hid (Chain w3 w6) := HN5.out
  have hz6 : w3.heap.size ≤ w6.heap.size := Below.size HN6.out
  clear HS5 HN5
  go_split_ands
  go_wp2_with (first
    | (go_at_call 149; refine (CO.out _ _ ?_ ?_).mono ?_; (focus (refine (HS.out _ ?_).2.2.2; repeat (first | exact HN6.out | refine Chain.alloc ?_ _ | refine Chain.drew ?_))); (focus (refine HI3.out.below ?_; repeat (first | exact HN6.out | refine Chain.alloc ?_ _ | refine Chain.drew ?_))); rintro e w7 ⟨v7, rfl, hi7, ⟨oa, oc, rfl⟩, hb7⟩))
  have HN7 : Hid (Chain ((w6.alloc (.cells ZI 3)).alloc (.map #[] 0)) w7) := hb7
  have HS2 : Hid (((w6.alloc (.cells ZI 3)).alloc (.map #[] 0)).heap.size = w6.heap.size + 1 + 1) := by
    have h : ((w6.alloc (.cells ZI 3)).alloc (.map #[] 0)).heap.size = w6.heap.size + 1 + 1 := by simp
    exact h
  rw [HS2.out] at hi7
  have HI7 : Hid (IntsFrom w7 (w6.heap.size + 1 + 1) (.slice oa m oc) m σ) := hi7
  have HR0 : Hid (RoomO w7 w6.heap.size m) := room_block (room_block (RoomO.made w6 ZI 3 m _ hZI rfl) (Below.heap_alloc _ _ _ (by simp))) (Below.block hb7 _ (by rw [HS2.out]; omega))
  have HM0 : Hid (CMap w7 (w6.heap.size + 1) (fun _ => 0)) := by
    have h := CMap.made (w6.alloc (.cells ZI 3))
    rw [show (w6.alloc (.cells ZI 3)).heap.size = w6.heap.size + 1 by simp] at h
    exact h.keep (Below.block hb7 _ (by rw [HS2.out]; omega))
  have hz7 : w6.heap.size + 1 + 1 ≤ w7.heap.size := by have := Below.size hb7; rw [HS2.out] at this; exact this
  have HN37 : Hid (Chain w3 w7) := HN6.out.trans ((((Chain.refl _).alloc _).alloc _).trans hb7)
  clear hi7 hb7 hmm
  go_loopw [82] (fun v wr => ∃ k : Nat, k ≤ m ∧ v = .int .i64 k ∧ CMap wr (w6.heap.size + 1) (cntB pz σ k) ∧ RoomO wr w6.heap.size m ∧ (∀ t, t < k → wr.cell? ⟨w6.heap.size, σ t, none⟩ = some (.int .i64 (cntB pz σ (t + 1) (pz (σ t)) : Int))) ∧ But2 w6.heap.size (w6.heap.size + 1) w7 wr) (fun v _ => m - (intOf v).toNat)
  case atStart => exact ⟨0, Nat.zero_le _, rfl, HM0.out.congr (fun x => rfl), HR0.out, fun t ht => absurd ht (Nat.not_lt_zero _), Nat.le_refl _, rfl, rfl, rfl, fun b _ _ _ => rfl⟩
  case round =>
    obtain ⟨k, hk, rfl, hcm, hroom, hrk, hbut⟩ := hrel
    have HCM : Hid (CMap wr (w6.heap.size + 1) (cntB pz σ k)) := hcm
    have HROOM : Hid (RoomO wr w6.heap.size m) := hroom
    have HRNK : Hid (∀ t, t < k → wr.cell? ⟨w6.heap.size, σ t, none⟩ = some (.int .i64 (cntB pz σ (t + 1) (pz (σ t)) : Int))) := hrk
    have HBUT : Hid (But2 w6.heap.size (w6.heap.size + 1) w7 wr) := hbut
    have HB4 : Hid (Below (w.heap.size + 2) ((w.alloc (.cells #[.slice ca n ccap, .slice qa m qcap] 40)).alloc (.cells #[.slice none 0 0, .slice none 0 0] 40)) wr) := (HB3.out.trans (Below.mono HN37.out (by omega))).trans (hbut.below (by omega) (by omega) (by omega))
    have hzr : w7.heap.size ≤ wr.heap.size := hbut.1
    obtain ⟨x0, x1, x2, x3, x4, x5, x6⟩ := box2r HB4.out
    have x7 : w.heap.size < wr.heap.size := by omega
    clear hcm hroom hrk hbut
    by_cases hkm : k < m
    · obtain ⟨ob, oo, oc', eo, hob, e0⟩ := ints_at (T := w6.heap.size + 1) HI7.out (HBUT.out.kept (by omega)) hzr hkm
      simp only [Value.slice.injEq, true_and] at eo
      obtain ⟨rfl, rfl⟩ := eo
      have hsk := HA.out k hkm
      obtain ⟨b, off, u, rfl, hb0, e1, hu⟩ := HQ.out wr (σ k) (HW.out HB4.out) hsk
      have hbz : b < wr.heap.size := by omega
      have hki : (k : Int) < (m : Int) := by omega
      have hsi : (σ k : Int) < (m : Int) := by omega
      have HU : Hid (ItsIs wr u (R (σ k)).len (R (σ k)).at_) := hu
      have hfz : fitI (pz (σ k)) := by rw [HPZ.out]; exact HFIT.out _ hsk _ hcc
      have HN3W : Hid (Chain w3 wr) := Below.trans HN37.out (HBUT.out.below (by omega) (by omega) (by omega))
      have CP : Hid (Calls Tryz.prog 148 #[u, .pointer (some ⟨w2.heap.size, 0, none⟩)] wr fun e w' => e = .returned (itV (pz (σ k))) ∧ Chain wr w') := by
        rw [HPZ.out]
        exact rank2_is u _ cc0 w2.heap.size _ wr hu (by rw [HLEN.out _ hsk]; exact hcc) (HCB.out wr HN3W.out).1 (HCB.out wr HN3W.out).2
      obtain ⟨ua, ucap, rfl, _⟩ := HU.out
      clear hu
      unfold itV at CP
      have HPX : Hid (∀ x, x = pz (σ k) → x = pz (σ k)) := fun x h => h
      go_upto_region 23 with (go_at_call 148; refine CP.out.mono ?_; rintro e w8 ⟨rfl, hb8⟩; have HB8 : Hid (Chain wr w8) := hb8; clear hb8)
      have HB9 : Hid (Chain wr (w8.alloc (.cells #[.int .i64 (pz (σ k)).kind, .int .i64 (pz (σ k)).n, .string (pz (σ k)).s] 67)).drew) := (HB8.out.alloc _).drew
      obtain ⟨W9, hW9⟩ : ∃ W, W = w8.alloc (.cells #[.int .i64 (pz (σ k)).kind, .int .i64 (pz (σ k)).n, .string (pz (σ k)).s] 67) := ⟨_, rfl⟩
      have p0 : W9.cell? ⟨w8.heap.size, 0, none⟩ = some (.int .i64 (pz (σ k)).kind) := by rw [hW9]; simp
      have p1 : W9.cell? ⟨w8.heap.size, 1, none⟩ = some (.int .i64 (pz (σ k)).n) := by rw [hW9]; simp
      have p2 : W9.cell? ⟨w8.heap.size, 2, none⟩ = some (.string (pz (σ k)).s) := by rw [hW9]; simp
      have p3 : w8.heap.size < W9.heap.size := by rw [hW9]; simp
      have hc9 : Chain wr W9 := by rw [hW9]; exact HB8.out.alloc _
      have hz8 : wr.heap.size ≤ w8.heap.size := Below.size HB8.out
      rw [← hW9]
      clear hW9 HB9
      obtain ⟨V, hV⟩ : ∃ V, V = cntB pz σ k (pz (σ k)) := ⟨_, rfl⟩
      have hVm : V ≤ 1000000 := by rw [hV]; exact Nat.le_trans (cntB_le _ _ _ _) (by omega)
      have hcm9 : CMap W9.drew (w6.heap.size + 1) (cntB pz σ k) := HCM.out.keep (Below.block hc9 _ (by omega))
      have hlk := hcm9.look hfz
      obtain ⟨stamp, w10, hen, ht10, hlk2, hst⟩ := hcm9.entry hfz
      obtain ⟨w11, hes, hcm11, ht11⟩ := hst w10 (V + 1) (by omega) rfl
      have HCM11 : Hid (CMap w11 (w6.heap.size + 1) (cntB pz σ (k + 1))) := hcm11.congr (fun y => by rw [cntB_succ, hV])
      have hlk3 := hcm11.look hfz
      rw [if_pos (itB_iff.2 rfl)] at hlk3
      rw [← hV] at hlk hen hlk2
      have hwa : IntKind.i64.wrap ((V : Int) + 1) = (V : Int) + 1 := IntWalk.i64_in _ (by omega)
      rw [show ((V + 1 : Nat) : Int) = (V : Int) + 1 by simp] at hes hlk3
      unfold itV at hlk hen hlk2 hlk3
      have q0 : w11.cell? ⟨w8.heap.size, 0, none⟩ = some (.int .i64 (pz (σ k)).kind) := (World.cell?_of_block (a := ⟨w8.heap.size, 0, none⟩) ((ht11.2.1 w8.heap.size (by omega)).trans (ht10.2.1 w8.heap.size (by omega)))).trans p0
      have q1 : w11.cell? ⟨w8.heap.size, 1, none⟩ = some (.int .i64 (pz (σ k)).n) := (World.cell?_of_block (a := ⟨w8.heap.size, 1, none⟩) ((ht11.2.1 w8.heap.size (by omega)).trans (ht10.2.1 w8.heap.size (by omega)))).trans p1
      have q2 : w11.cell? ⟨w8.heap.size, 2, none⟩ = some (.string (pz (σ k)).s) := (World.cell?_of_block (a := ⟨w8.heap.size, 2, none⟩) ((ht11.2.1 w8.heap.size (by omega)).trans (ht10.2.1 w8.heap.size (by omega)))).trans p2
      have hbg : w11.heap[w6.heap.size]? = wr.heap[w6.heap.size]? := (ht11.2.1 _ (by omega)).trans ((ht10.2.1 _ (by omega)).trans (Below.block hc9 _ (by omega)))
      obtain ⟨⟨r0, hr0⟩, hr1⟩ := (room_block HROOM.out hbg) (σ k) hsk
      have HBG : Hid (w11.heap[w6.heap.size]? = wr.heap[w6.heap.size]?) := hbg
      have HBU11 : Hid (But2 w6.heap.size (w6.heap.size + 1) w7 w11) := ((HBUT.out.chain (hc9.drew)).turned ht10).turned ht11
      have HVV : Hid ((V : Int) + 1 = (cntB pz σ (k + 1) (pz (σ k)) : Int)) := by
        have h : cntB pz σ (k + 1) (pz (σ k)) = V + 1 := by rw [cntB_succ, if_pos (itB_iff.2 rfl), hV]
        show (V : Int) + 1 = _
        rw [h]; simp
      have h11 : w8.heap.size < w11.heap.size := by rw [ht11.1, ht10.1]; exact p3
      have h1112 : w6.heap.size < w11.heap.size := by omega
      clear hst hcm11 ht10 ht11 hc9 hV hcm9 hbg
      go_region_law (fail)
      all_goals
        clear hes hen hlk hlk2 p0 p1 p2
        go_split_ands
        go_wp2_with fail
        go_roundw
        case rel =>
          refine ⟨k + 1, by omega, by go_num, HCM11.out.keep (Below.heap_setCell _ _ _ _ (by simp)), (room_block HROOM.out HBG.out).setCell _ _, fun t ht => ?_, HBU11.out.set _ _⟩
          by_cases e : t = k
          · subst e
            rw [← HVV.out]
            exact set_same hr0
          · rw [set_other (by simp; exact fun h => e (HINJ.out _ _ (by omega) hkm h.symm))]
            exact (World.cell?_of_block (a := ⟨w6.heap.size, σ t, none⟩) HBG.out).trans (HRNK.out t (by omega))
        case measure => simp [intOf]; omega
    · have e : k = m := by omega
      subst e
      have HRANK : Hid (∀ W : World, (∀ b, b < wr.heap.size → W.heap[b]? = wr.heap[b]?) → ∀ i, i < k → W.cell? ⟨w6.heap.size, i, none⟩ = some (.int .i64 (rk i : Int))) := fun W hW i hi => by
        obtain ⟨t, ht, rfl⟩ := HONTO.out i hi
        rw [← HRK2.out t ht]
        exact (World.cell?_of_block (a := ⟨w6.heap.size, σ t, none⟩) (hW w6.heap.size (by omega))).trans (HRNK.out t ht)
      have HN3R : Hid (Chain w3 wr) := Below.trans HN37.out (HBUT.out.below (by omega) (by omega) (by omega))
      have CW : Hid (∀ S, Calls Tryz.prog 133 #[.int .i64 (k : Int), .slice (some ⟨wr.heap.size, 0, none⟩) 2 2] (wr.alloc (.cells #[.slice ca n ccap, .slice (some ⟨w2.heap.size + 1, 0, none⟩) 1 1] 35)) fun e w' => ∃ c' q', e = .returned (.agg #[c', q']) ∧ StrsKept w' (wr.heap.size + 1) w'.heap.size q'.ownBlock c' (n + 1) (colsR C n name).at_ ∧ RowsOwn w' (wr.heap.size + 1) q' 0 S ∧ (∃ a1 k1, c' = .slice a1 (n + 1) k1) ∧ (∃ a2 k2, q' = .slice a2 0 k2) ∧ Below (wr.heap.size + 1) (wr.alloc (.cells #[.slice ca n ccap, .slice (some ⟨w2.heap.size + 1, 0, none⟩) 1 1] 35)) w') := fun S => by
        have h := withRoom_two k wr.heap.size 0 2 (.slice ca n ccap) (.slice (some ⟨w2.heap.size + 1, 0, none⟩) 1 1) ⟨n, C⟩ (oneT name) (wr.alloc (.cells #[.slice ca n ccap, .slice (some ⟨w2.heap.size + 1, 0, none⟩) 1 1] 35)) hm4 (Nat.le_refl _) (by unfold maxLen; omega) (by simp) (by simp) (by simp) ((HC.out wr (HW.out HB4.out)).below ((Below.refl _ _).alloc (Nat.le_refl _) _)) ((HMO.out wr HN3R.out).below ((Below.refl _ _).alloc (Nat.le_refl _) _)) (by show (n + 1) * 16 ≤ _; omega) S
        rwa [show (wr.alloc (.cells #[.slice ca n ccap, .slice (some ⟨w2.heap.size + 1, 0, none⟩) 1 1] 35)).heap.size = wr.heap.size + 1 by simp] at h
      go_wp2_with (first
        | (go_at_call 133; refine (CW.out (rkR R rk)).mono ?_; rintro e w5 ⟨c5, q5, rfl, hs5, hr5, ⟨ca5, cc5, rfl⟩, ⟨qa5, qc5, rfl⟩, hb5⟩; have HS5 : Hid (StrsKept w5 (wr.heap.size + 1) w5.heap.size (Value.slice qa5 0 qc5).ownBlock (.slice ca5 (n + 1) cc5) (n + 1) (colsR C n name).at_) := hs5; have HR5 : Hid (RowsOwn w5 (wr.heap.size + 1) (.slice qa5 0 qc5) 0 (rkR R rk)) := hr5; have HB52 : Hid (Below wr.heap.size wr w5) := ((Below.refl _ _).alloc (Nat.le_refl _) _).trans (hb5.mono (Nat.le_succ _)); have HB5 : Hid (Below (w.heap.size + 2) ((w.alloc (.cells #[.slice ca n ccap, .slice qa k qcap] 40)).alloc (.cells #[.slice none 0 0, .slice none 0 0] 40)) w5) := HB4.out.trans (HB52.out.mono (by omega)); have hz5 : wr.heap.size + 1 ≤ w5.heap.size := (by have := hb5.size; simpa using this); clear x0 x1 x2 x3 x4 x5 x6 x7; obtain ⟨x0, x1, x2, x3, x4, x5, x6⟩ := box2r HB5.out; have x7 : w.heap.size < w5.heap.size := Nat.lt_of_succ_lt x6; clear hs5 hr5 hb5))
      obtain ⟨wB, hwB⟩ : ∃ W, W = wr := ⟨_, rfl⟩
      subst hwB
      have HR0 : Hid (RowsTwo (w5.alloc (.cells #[.slice ca5 (n + 1) cc5, .slice qa5 0 qc5] 40)) (wB.heap.size + 1) w5.heap.size (.slice qa5 0 qc5) 0 (rkR R rk)) := (RowsTwo.start HR5.out (Nat.le_refl _)).alloc hz5 _
      have HK0 : Hid (StrsKept (w5.alloc (.cells #[.slice ca5 (n + 1) cc5, .slice qa5 0 qc5] 40)) (wB.heap.size + 1) w5.heap.size (Value.slice qa5 0 qc5).ownBlock (.slice ca5 (n + 1) cc5) (n + 1) (colsR C n name).at_) := HS5.out.below ((Below.refl _ _).alloc (Nat.le_refl _) _)
      have hzB : w.heap.size + 1 + 1 < wB.heap.size := by omega
      have hz6B : w6.heap.size < wB.heap.size := by omega
      clear x0 x1 x2 x3 x4 x5 x6 x7
      go_loopw [117] (fun v wr => ∃ (j : Nat) (rv : Value), j ≤ k ∧ v = .int .i64 j ∧ wr.cell? ⟨w5.heap.size, 0, none⟩ = some (.slice ca5 (n + 1) cc5) ∧ wr.cell? ⟨w5.heap.size, 1, none⟩ = some rv ∧ wr.frozen? ⟨w5.heap.size, 1, none⟩ = false ∧ RowsTwo wr (wB.heap.size + 1) w5.heap.size rv j (rkR R rk) ∧ StrsKept wr (wB.heap.size + 1) w5.heap.size rv.ownBlock (.slice ca5 (n + 1) cc5) (n + 1) (colsR C n name).at_ ∧ Below wB.heap.size wB wr ∧ w5.heap.size < wr.heap.size) (fun v _ => k - (intOf v).toNat)
      case atStart => exact ⟨0, .slice qa5 0 qc5, Nat.zero_le _, rfl, by simp, by simp, by simp, HR0.out, HK0.out, HB52.out.alloc (by omega) _, by simp⟩
      case round =>
        obtain ⟨j, rv, hj, rfl, t0, t1, tf, hrow, hkept, hbr, hTz⟩ := hrel
        have HB6 : Hid (Below (w.heap.size + 2) ((w.alloc (.cells #[.slice ca n ccap, .slice qa k qcap] 40)).alloc (.cells #[.slice none 0 0, .slice none 0 0] 40)) wr) := HB4.out.trans (hbr.mono (by omega))
        obtain ⟨x0, x1, x2, x3, x4, x5, x6⟩ := box2r HB6.out
        have x7 : w.heap.size < wr.heap.size := by omega
        obtain ⟨ra, rc, rfl⟩ := hrow.shape
        have HROW : Hid (RowsTwo wr (wB.heap.size + 1) w5.heap.size (.slice ra j rc) j (rkR R rk)) := hrow
        have HKEPT : Hid (StrsKept wr (wB.heap.size + 1) w5.heap.size (Value.slice ra j rc).ownBlock (.slice ca5 (n + 1) cc5) (n + 1) (colsR C n name).at_) := hkept
        have HBR : Hid (Below wB.heap.size wB wr) := hbr
        clear hrow hkept
        by_cases hjk : j < k
        · obtain ⟨b, off, u, rfl, hb0, e1, hu⟩ := HQ.out wr j (HW.out HB6.out) hjk
          have hbz : b < wr.heap.size := by omega
          have hji : (j : Int) < (k : Int) := by omega
          have e2 := HRANK.out wr (fun b hb => hbr.block b hb) j hjk
          have e3 : w6.heap.size < wr.heap.size := by have := hbr.size; omega
          have hu32 : (R j).len * 32 ≤ 140737488351232 := HG.out j hjk
          have hl8 : (R j).len ≤ 8 := by rw [HLEN.out j hjk]; exact hn8
          have HU : Hid (ItsIs wr u (R j).len (R j).at_) := hu
          obtain ⟨ua, ucap, rfl, _⟩ := HU.out
          have CNM : Hid (∀ W, Calls Tryz.prog 124 #[.int .i64 (rk j : Int)] W fun e w' => ∃ v, e = .returned v ∧ (v = .agg #[.int .i64 2, .int .i64 (rk j : Int), .string ⟨#[]⟩] ∧ Chain W w')) := fun W => (number_is (rk j : Int) W).mono fun e w' ⟨h1, h2⟩ => ⟨_, h1, rfl, h2⟩
          have HRKJ : Hid (appI (R j) ⟨1, fun _ => ⟨2, (rk j : Int), ⟨#[]⟩⟩⟩ = rkR R rk j) := rfl
          clear hu hbr
          go_upto_region 30 with fail
          go_region_law (first
            | (refine step_call rfl 124 #[.int .i64 (rk j : Int)] (by simp [go_sem]) (fun v w' => v = .agg #[.int .i64 2, .int .i64 (rk j : Int), .string ⟨#[]⟩] ∧ Chain _ w') (CNM.out _) ?_; rintro v9 w9 ⟨rfl, hb9⟩; have hc9 : Chain wr w9 := Chain.trans (by (repeat (first | exact Chain.refl _ | refine Chain.drew ?_))) hb9; have HB9 : Hid (Chain wr w9) := hc9; have y1 : w9.cell? ⟨w5.heap.size, 1, none⟩ = some (.slice ra j rc) := (Below.cell hc9 (p := ⟨w5.heap.size, 1, none⟩) hTz).trans t1; have yz : w5.heap.size < w9.heap.size := Nat.lt_of_lt_of_le hTz (Below.size hc9); have HR9 : Hid (RowsTwo w9 (wB.heap.size + 1) w5.heap.size (.slice ra j rc) j (rkR R rk)) := HROW.out.below hc9 hz5; have HU9 : Hid (ItsIs w9 (.slice ua (R j).len ucap) (R j).len (R j).at_) := HU.out.below hc9; clear hb9 hc9 CNM)
            | (refine step_call rfl 142 #[.slice (some ⟨w9.heap.size + 1, 0, none⟩) 2 2] (by simp [go_sem]) (fun v w' => ItsApart w' _ none v (appI (R j) ⟨1, fun _ => ⟨2, (rk j : Int), ⟨#[]⟩⟩⟩).len (appI (R j) ⟨1, fun _ => ⟨2, (rk j : Int), ⟨#[]⟩⟩⟩).at_ ∧ (∃ a' c', v = .slice a' (appI (R j) ⟨1, fun _ => ⟨2, (rk j : Int), ⟨#[]⟩⟩⟩).len c') ∧ Below _ _ w') (concatI_two (w9.heap.size + 1) 0 2 (.slice ua (R j).len ucap) (.slice (some ⟨w9.heap.size, 0, none⟩) 1 1) (R j) ⟨1, fun _ => ⟨2, (rk j : Int), ⟨#[]⟩⟩⟩ _ (Nat.le_refl _) (by unfold maxLen; omega) (by simp) (by simp) (by simp) (by exact ((HU9.out.alloc _).alloc _).heap rfl) (by exact ((it_lit 2 (rk j : Int) ⟨#[]⟩ 67 _ rfl).alloc _).heap rfl) (by show ((R j).len + 1) * 32 ≤ _; omega)) ?_; rintro v7 w7' ⟨hi7, ⟨va7, vc7, rfl⟩, hb7⟩; obtain ⟨k1, k2, k3⟩ := made_facts (wr := w9) hi7 hb7 (below_heap (((Below.refl _ _).alloc (Nat.le_refl _) _).alloc (by simp) _) rfl rfl rfl rfl) HR9.out hz5 yz; have HI7' : Hid (ItsApart w7' (w5.heap.size + 1) (Value.slice ra j rc).ownBlock (.slice va7 (appI (R j) ⟨1, fun _ => ⟨2, (rk j : Int), ⟨#[]⟩⟩⟩).len vc7) (appI (R j) ⟨1, fun _ => ⟨2, (rk j : Int), ⟨#[]⟩⟩⟩).len (appI (R j) ⟨1, fun _ => ⟨2, (rk j : Int), ⟨#[]⟩⟩⟩).at_) := k1; have HB7 : Hid (Below w9.heap.size w9 w7') := k2; have HR7 : Hid (RowsTwo w7' (wB.heap.size + 1) w5.heap.size (.slice ra j rc) j (rkR R rk)) := k3; have k4 : w5.heap.size < w7'.heap.size := Nat.lt_of_lt_of_le yz k2.size; have k5 : w7'.cell? ⟨w5.heap.size, 1, none⟩ = some (.slice ra j rc) := (k2.cell (p := ⟨w5.heap.size, 1, none⟩) yz).trans y1; clear hi7 hb7 k1 k2 k3)
            | (refine step_push_two rfl (.tmp 123) (.tmp 133) rfl (wB.heap.size + 1) w5.heap.size j (.slice ra j rc) (rkR R rk) (by simp [Act.eval]) (by exact (HR7.out.alloc hz5 _).heap rfl hz5) hz5 (by simp; omega) ⟨w7'.heap.size, 0, none⟩ 1 (.slice va7 (appI (R j) ⟨1, fun _ => ⟨2, (rk j : Int), ⟨#[]⟩⟩⟩).len vc7) (by simp [Act.eval]) (by simp) (by exact (HI7'.out.alloc _).heap rfl) (by omega) ?_; intro v8 w8 hr8 hsh8 hg8 hat8; obtain ⟨va8, vc8, rfl⟩ := hsh8; have hal := alloc_below (w6 := w7') hg8 rfl rfl rfl rfl; obtain ⟨z1, z2, z3⟩ := put_facts (wr := w7') hg8 hal HR7.out hz5 k4; have HR8 : Hid (RowsTwo w8 (wB.heap.size + 1) w5.heap.size (.slice va8 (j + 1) vc8) (j + 1) (rkR R rk)) := hr8; have HK8 : Hid (StrsKept w8 (wB.heap.size + 1) w5.heap.size (Value.slice va8 (j + 1) vc8).ownBlock (.slice ca5 (n + 1) cc5) (n + 1) (colsR C n name).at_) := kept_push ((HKEPT.out.below HB9.out).below HB7.out) hg8 hat8 hal; have HBW8 : Hid (Below wB.heap.size wB w8) := ((HBR.out.trans (Below.mono HB9.out HBR.out.size)).trans (HB7.out.mono (Nat.le_trans HBR.out.size (Below.size HB9.out)))).trans (z3.mono (by omega)); have s0 : w8.cell? ⟨w5.heap.size, 0, none⟩ = some (.slice ca5 (n + 1) cc5) := (World.cell?_of_block (a := ⟨w5.heap.size, 0, none⟩) z1).trans ((HB7.out.cell (p := ⟨w5.heap.size, 0, none⟩) yz).trans ((Below.cell HB9.out (p := ⟨w5.heap.size, 0, none⟩) hTz).trans t0)); have s1 : w8.cell? ⟨w5.heap.size, 1, none⟩ = some (.slice ra j rc) := (World.cell?_of_block (a := ⟨w5.heap.size, 1, none⟩) z1).trans k5; have sf : w8.frozen? ⟨w5.heap.size, 1, none⟩ = false := (World.frozen?_of_block (a := ⟨w5.heap.size, 1, none⟩) z1).trans ((HB7.out.frozen (p := ⟨w5.heap.size, 1, none⟩) yz).trans ((Below.frozen HB9.out (p := ⟨w5.heap.size, 1, none⟩) hTz).trans tf)); have hz8 : w5.heap.size < w8.heap.size := Nat.lt_of_lt_of_le k4 z2; clear hr8 hg8 hat8 hal z1 z2 z3))
          all_goals
            go_wp2_with fail
            go_roundw
            case rel => exact ⟨j + 1, .slice va8 (j + 1) vc8, by omega, by go_num, by simp [go_sem, s0], by simp [go_sem, s1], by simp [go_sem, sf], HR8.out.setCell hz5 (.inl rfl) _, HK8.out.setCell (.inl rfl) _, HBW8.out.setCell (by simp; omega) _, by simpa using hz8⟩
            case measure => simp [intOf]; omega
        · have e : j = k := by omega
          subst e
          go_wp2
          refine bodyPost_ret (v := .tuple #[.agg #[.slice ca5 (n + 1) cc5, .slice ra j rc], .int .i64 0]) (by simp [results, Tryz.results106, go_sem, x2, x3]) rfl ⟨_, _, rfl, ?_, (((HW.out HB6.out)).setCell (by simp <;> omega) _).setCell (by simp <;> omega) _⟩
          exact FreshRel.of ((HKEPT.out.setCell (.inr (by simp; omega)) _).setCell (.inr (by simp; omega)) _) ((HROW.out.setCell hz5 (.inr (by simp; omega)) _).setCell hz5 (.inr (by simp; omega)) _) (by omega) hz5
end Go.Proofs.YtkcejelmohameaaGreatDoor
