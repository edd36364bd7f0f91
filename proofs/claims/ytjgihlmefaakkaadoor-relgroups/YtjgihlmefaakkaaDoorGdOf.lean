/-
  CONTRACT of the document's answer GroupedOf, where the relation, the aggregate and the columns may be.
-/
import Derived.Test.YtjgihlmefaakkaaDoorGdAgg
import Derived.Test.YtjgihlmefaakkaaDoorRlChain
import Derived.Test.YtjgihlmefaakkaaDoorRlOf
import Derived.Test.YtjgihlmefaakkaaDoorRlInts
import Derived.Deep.RegionLaw
import Derived.Deep.RegionHeld3
import Derived.Deep.QuietTactic
import Derived.BigQuiet
import Derived.Sort.AtCall
set_option linter.unusedVariables false
namespace Go.Proofs.YtjgihlmefaakkaaDoor
set_option maxRecDepth 100000
open Go.RowKit Go.WideShapes

theorem gr_fine (part name : ByteArray) (hpm : part.size ≤ maxLen) (hnm : name.size ≤ maxLen) : StrsFine 2 (grC part name) := ⟨by decide, fun i hi => by unfold grC; split <;> assumption⟩
/-- the first k: has none of them the item? -/
def fstT (p : Nat → It) (i k : Nat) : Bool := (List.range k).all fun t => !itB (p t) (p i)
theorem fstT_succ (p : Nat → It) (i k : Nat) : fstT p i (k + 1) = (fstT p i k && !itB (p k) (p i)) := by
  unfold fstT
  rw [List.range_succ, List.all_append]
  simp
theorem two_new {w : World} {base : Nat} {g : Option Nat} {T : TypeId} {x y : It} {Y : Nat → It} (hb : base ≤ w.heap.size) (hg : ∀ k, g = some k → k < w.heap.size) (h0 : Y 0 = x) (h1 : Y 1 = y) : ItsApart (w.alloc (.cells #[.int .i64 x.kind, .int .i64 x.n, .string x.s, .int .i64 y.kind, .int .i64 y.n, .string y.s] T)) base g (.slice (some ⟨w.heap.size, 0, none⟩) 2 2) 2 Y :=
  ⟨_, _, rfl, Nat.le_refl _, by unfold maxLen; omega, (fun h => nomatch h), fun _ => ⟨w.heap.size, 0, rfl, by simp, hb, fun e => by have := hg _ e; omega, fun t ht => by
    have : t = 0 ∨ t = 1 := by omega
    rcases this with rfl | rfl
    · rw [h0]; simp
    · rw [h1]; simp⟩⟩
theorem own_belowG {w w' : World} {base : Nat} {e : TypeId} {size : Nat} {v : Value} {n : Nat} {xs : List Value} (h : w.ownsRow base e size v n xs) (hb : Below w.heap.size w w') : w'.ownsRow base e size v n xs := by
  refine ⟨h.1, ?_⟩
  rcases h.2 with h1 | ⟨g, cap, cur, h1, h2, h3, h4⟩
  · exact .inl h1
  · refine .inr ⟨g, cap, cur, h1, h2, ?_, h4⟩
    rw [hb.block g (Array.getElem?_eq_some_iff.1 h3).1]
    exact h3
/-- of a part: its items, how many -/
def yP (R : Nat → Row) (Q m : Nat) (p : Nat → It) (x : It) : Nat → It := fun s => (R (keptAt (isP p x) m s)).at_ Q
set_option maxHeartbeats 12800000 in
theorem grouped_yes (c q : Value) (name part which col : ByteArray) (cnt : Bool) (n m P Q : Nat) (C : Nat → ByteArray) (R : Nat → Row) (w : World) (hc : StrsIs w c n C) (hq : RowsIs w q m R) (hf : StrsFine n C) (hg : RowsFine m R) (hT : Tabs w) (h0 : relF C n R m = 0)
    (hG : isG which) (hcnt : cnt = true ↔ which = tCount) (hP : colI C n part = (P : Int)) (hQ : colI C n col = (Q : Int)) (hPn : P < n) (hQn : Q < n) (hpm : part.size ≤ maxLen) (hnm : name.size ≤ maxLen) :
    Calls Tryd.prog 6 #[.agg #[c, q], .string name, .string part, .string which, .string col] w fun e w' => ∃ c1 q1, e = .returned (.tuple #[.agg #[c1, q1], .int .i64 (grF cnt (kndG R Q) (numG cnt R Q) (opG which) (prtG R P) m part name)]) ∧
      StrsIs w' c1 (okN (grF cnt (kndG R Q) (numG cnt R Q) (opG which) (prtG R P) m part name) 2) (grC part name) ∧ RowsIs w' q1 (okN (grF cnt (kndG R Q) (numG cnt R Q) (opG which) (prtG R P) m part name) (prtN (prtG R P) m)) (grR (numG cnt R Q) (opG which) (prtG R P) m m) ∧ Below w.heap.size w w' := by
  have HW : Hid (∀ {W : World} {o o' : Obj}, Below (w.heap.size + 2) ((w.alloc o).alloc o') W → Below w.heap.size w W) := fun h => (below_two _ _).trans (h.mono (by omega))
  have C1 : Hid (∀ o o', Calls Tryd.prog 16 #[.agg #[c, q]] ((w.alloc o).alloc o') fun e w' => e = .returned (.int .i64 0) ∧ Below (w.heap.size + 2) ((w.alloc o).alloc o') w') := fun o o' => by
    have h := relFault_is c q n m C R _ (hc.below (below_two o o')) (hq.below (below_two o o')) hf hg (Utf8Tabs_below hT (below_two o o'))
    rw [h0] at h
    rwa [show ((w.alloc o).alloc o').heap.size = w.heap.size + 2 by simp] at h
  have hqs : ∃ a x, q = .slice a m x := by obtain ⟨a, x, e, _⟩ := hq; exact ⟨a, x, e⟩
  have CP : Hid (∀ W, Below w.heap.size w W → Calls Tryd.prog 17 #[.agg #[c, q], .string part] W fun e w' => e = .returned (.int .i64 (P : Int)) ∧ Below W.heap.size W w') := fun W hW => by
    have h := colAt_is c q n m C R part W (hc.below hW) hqs
    rwa [hP] at h
  have CQ : Hid (∀ W, Below w.heap.size w W → Calls Tryd.prog 17 #[.agg #[c, q], .string col] W fun e w' => e = .returned (.int .i64 (Q : Int)) ∧ Below W.heap.size W w') := fun W hW => by
    have h := colAt_is c q n m C R col W (hc.below hW) hqs
    rwa [hQ] at h
  have hm6 : m ≤ 1000000 := (relF_zero h0).2.1
  have hn8 : n ≤ 8 := colsF_le (relF_zero h0).1
  have HLEN : Hid (∀ i, i < m → (R i).len = n) := row_len h0
  have HMB : Hid (∀ i, i < m → -1099511627776 ≤ ((R i).at_ Q).n ∧ ((R i).at_ Q).n ≤ 1099511627776) := fun i hi => may_bound (may_rel h0 i hi Q hQn)
  obtain ⟨qa, qcap, rfl, _, _, _, q3⟩ := hq
  have HQ : Hid (∀ W i, Below w.heap.size w W → i < m → ∃ b off u, qa = some ⟨b, off, none⟩ ∧ b < w.heap.size ∧ W.cell? ⟨b, off + i, none⟩ = some u ∧ ItsIs W u n (R i).at_) := fun W i hW hi => by
    obtain ⟨b, off, e1, e2, e3⟩ := q3 (by omega)
    obtain ⟨u, e4, e5⟩ := e3 i hi
    rw [HLEN.out i hi] at e5
    exact ⟨b, off, u, e1, e2, (hW.cell (p := ⟨b, off + i, none⟩) e2).trans e4, e5.below hW⟩
  obtain ⟨ca, ccap, rfl, _⟩ := hc
  clear hf hg hT q3 hP hQ h0 hqs
  have hp0 : ¬ ((P : Int) < 0) := by omega
  have hq0 : ¬ ((Q : Int) < 0) := by omega
  obtain ⟨F, hF⟩ : ∃ F, F = grF cnt (kndG R Q) (numG cnt R Q) (opG which) (prtG R P) m part name := ⟨_, rfl⟩
  obtain ⟨p, hp⟩ : ∃ p, p = prtG R P := ⟨_, rfl⟩
  rw [← hF]
  rw [← hp] at hF ⊢
  have HPR : Hid (∀ i, p i = (R i).at_ P) := fun i => by rw [hp]; rfl
  have HFF : Hid (F = grF cnt (kndG R Q) (numG cnt R Q) (opG which) p m part name) := hF
  obtain ⟨U, hU⟩ : ∃ U, U = grR (numG cnt R Q) (opG which) p m m := ⟨_, rfl⟩
  rw [← hU]
  have HUU : Hid (U = grR (numG cnt R Q) (opG which) p m m) := hU
  clear hp hF hU
  have HALL : Hid ((∀ t, t < m → fstB p t = true → dOk which (yP R Q m p (p t)) (keptN (isP p (p t)) m) = true) → F = madeF (grC part name) 2 (prtN p m)) := fun h => by
    rw [HFF.out]
    refine if_neg (fun e => ?_)
    obtain ⟨k, k1, k2⟩ := List.any_eq_true.1 e
    have hk := List.mem_range.1 k1
    have hd : ∀ i, i < m → docR which (kndG R Q) (numG cnt R Q) p i = false := fun i hi => by
      obtain ⟨t, t1, t2, t3⟩ := fst_at p i
      have := part_ok.1 (h t (by omega) t3) i hi t2.symm
      exact (docR_cnt hcnt _ _ _ _).trans this
    rw [(ref_all hG hcnt hm6 (num_in HMB.out) (num_one) m (Nat.le_refl _)).2 hd k hk] at k2
    cases k2
  have HBP : Hid (∀ t, t < m → fstB p t = true → dOk which (yP R Q m p (p t)) (keptN (isP p (p t)) m) = false → F = 12) := fun t ht hf hb => by
    rw [HFF.out]
    refine if_pos (List.any_eq_true.2 ?_)
    have hex : ∃ k, k < m ∧ refB cnt (kndG R Q) (numG cnt R Q) (opG which) p k = true := Classical.byContradiction fun hn => by
      have hr : ∀ i, i < m → refB cnt (kndG R Q) (numG cnt R Q) (opG which) p i = false := fun i hi => by
        cases e : refB cnt (kndG R Q) (numG cnt R Q) (opG which) p i
        · rfl
        · exact absurd ⟨i, hi, e⟩ hn
      have hd := (ref_all hG hcnt hm6 (num_in HMB.out) (num_one) m (Nat.le_refl _)).1 hr
      have : dOk which (yP R Q m p (p t)) (keptN (isP p (p t)) m) = true := part_ok.2 (fun k hk e => (docR_cnt hcnt _ _ _ _).symm.trans (hd k hk))
      rw [this] at hb
      cases hb
    obtain ⟨k, k1, k2⟩ := hex
    exact ⟨k, List.mem_range.2 k1, k2⟩
  have HVAL : Hid (∀ x, dV which (yP R Q m p x) (keptN (isP p x) m) = agV (numG cnt R Q) (opG which) p x m) := fun x => part_val hcnt
  have HROWU : Hid (∀ j, j < m → fstB p j = true → (U (prtN p j)).len = 2 ∧ (U (prtN p j)).at_ 0 = p j ∧ (U (prtN p j)).at_ 1 = ⟨2, agV (numG cnt R Q) (opG which) p (p j) m, ⟨#[]⟩⟩) := fun j hj hf => by
    have hK : prtK p m (prtN p j) = p j := prtK_at hj hf
    rw [HUU.out]
    refine ⟨rfl, hK, ?_⟩
    show (⟨2, agV (numG cnt R Q) (opG which) p (prtK p m (prtN p j)) m, ⟨#[]⟩⟩ : It) = _
    rw [hK]
  have CAG : Hid (∀ W v x, ItsIs W v (keptN (isP p x) m) (yP R Q m p x) → Calls Tryd.prog 18 #[.string which, v] W fun e w' => e = .returned (.tuple #[.int .i64 (dA which (yP R Q m p x) (keptN (isP p x) m)), .bool (dOk which (yP R Q m p x) (keptN (isP p x) m))]) ∧ Chain W w') := fun W v x h => (aggregated_is which hG v _ _ W h (fun s hs => HMB.out _ (by
      obtain ⟨t, t1, t2, rfl⟩ := kept_at hs
      rw [keptAt_at t1 t2]
      exact t1))).mono fun e w' ⟨h1, q, h2⟩ => ⟨h1, by rw [h2]; exact below_drawn (Chain.refl _) q⟩
  have hGW : (which = tCount ∨ which = tSum ∨ which = tMin ∨ which = tMax) := hG
  have hany : ((which.toList == [99, 111, 117, 110, 116]) = true) ∨ ((which.toList == [99, 111, 117, 110, 116]) = false ∧ (which.toList == [115, 117, 109]) = true) ∨ ((which.toList == [99, 111, 117, 110, 116]) = false ∧ (which.toList == [115, 117, 109]) = false ∧ (which.toList == [109, 105, 110]) = true) ∨ ((which.toList == [99, 111, 117, 110, 116]) = false ∧ (which.toList == [115, 117, 109]) = false ∧ (which.toList == [109, 105, 110]) = false ∧ (which.toList == [109, 97, 120]) = true) := by
    rcases hGW with rfl | rfl | rfl | rfl
    · exact .inl (by unfold tCount; rw [ByteArray.toList_eq]; decide)
    · exact .inr (.inl (by unfold tSum; rw [ByteArray.toList_eq]; decide))
    · exact .inr (.inr (.inl (by unfold tMin; rw [ByteArray.toList_eq]; decide)))
    · exact .inr (.inr (.inr (by unfold tMax; rw [ByteArray.toList_eq]; decide)))
  clear hG hcnt hGW
  go_enter Tryd.func6, Tryd.ntmps6
  go_upto_region 2 with (first
    | (go_at_call 16; refine (C1.out _ _).mono ?_; rintro e w1 ⟨rfl, hb1⟩; have HB1 : Hid (Below (w.heap.size + 2) ((w.alloc (.cells #[.slice ca n ccap, .slice qa m qcap] 25)).alloc (.cells #[.slice none 0 0, .slice none 0 0] 25)) w1) := hb1; obtain ⟨x0, x1, x2, x3, x4, x5, x6⟩ := box2r hb1; clear hb1))
  go_cut [42] from 25 to 41 (fun s wx => s = .bool false ∧ wx = w1)
  case first =>
    rcases hany with h1 | ⟨h1, h2⟩ | ⟨h1, h2, h3⟩ | ⟨h1, h2, h3, h4⟩
    all_goals (go_wp2_with fail; go_meet; exact ⟨rfl, rfl⟩)
  case rest =>
    obtain ⟨rfl, hwc⟩ := hcut
    obtain rfl := hwc.symm
    clear hany hwc
    have x7 : w.heap.size < w1.heap.size := Nat.lt_of_succ_lt x6
    go_wp2_with (first
      | (go_at_call 17; refine (CP.out _ (HW.out HB1.out)).mono ?_; rintro e w2 ⟨rfl, hb2⟩; have HB2 : Hid (Below (w.heap.size + 2) ((w.alloc (.cells #[.slice ca n ccap, .slice qa m qcap] 25)).alloc (.cells #[.slice none 0 0, .slice none 0 0] 25)) w2) := HB1.out.trans (hb2.mono (by omega)); clear x0 x1 x2 x3 x4 x5 x6 x7; obtain ⟨x0, x1, x2, x3, x4, x5, x6⟩ := box2r HB2.out; have x7 : w.heap.size < w2.heap.size := Nat.lt_of_succ_lt x6; clear hb2 CP)
      | (go_at_call 17; refine (CQ.out _ (HW.out HB2.out)).mono ?_; rintro e w3 ⟨rfl, hb3⟩; have HB3 : Hid (Below (w.heap.size + 2) ((w.alloc (.cells #[.slice ca n ccap, .slice qa m qcap] 25)).alloc (.cells #[.slice none 0 0, .slice none 0 0] 25)) w3) := HB2.out.trans (hb3.mono (by omega)); clear x0 x1 x2 x3 x4 x5 x6 x7; obtain ⟨x0, x1, x2, x3, x4, x5, x6⟩ := box2r HB3.out; have x7 : w.heap.size < w3.heap.size := Nat.lt_of_succ_lt x6; clear hb3 CQ))
    have hx6 : w.heap.size + 1 < w3.heap.size := x6
    clear C1 HB1 HB2
    obtain ⟨i0, hi0, hz0, hz1, hz2⟩ := info_parts infoItem
    go_loopw [15, 16] (fun v i wr => ∃ j : Nat, j ≤ m ∧ i = .int .i64 j ∧ RowsOwn wr w3.heap.size v (prtN p j) U ∧ Below w3.heap.size w3 wr ∧ ∀ t, t < j → fstB p t = true → dOk which (yP R Q m p (p t)) (keptN (isP p (p t)) m) = true) (fun _ i _ => m - (intOf i).toNat)
    case atStart => exact ⟨0, Nat.zero_le _, rfl, RowsOwn.nil _ _ _, Below.refl _ _, fun t ht => by omega⟩
    case round =>
      obtain ⟨j, hj, rfl, hrow, hbr, hokp⟩ := hrel
      have HB4 : Hid (Below (w.heap.size + 2) ((w.alloc (.cells #[.slice ca n ccap, .slice qa m qcap] 25)).alloc (.cells #[.slice none 0 0, .slice none 0 0] 25)) wr) := HB3.out.trans (hbr.mono (by omega))
      have HBR : Hid (Below w3.heap.size w3 wr) := hbr
      have HOKP : Hid (∀ t, t < j → fstB p t = true → dOk which (yP R Q m p (p t)) (keptN (isP p (p t)) m) = true) := hokp
      have hzr : w3.heap.size ≤ wr.heap.size := hbr.size
      clear x0 x1 x2 x3 x4 x5 x6 x7
      obtain ⟨x0, x1, x2, x3, x4, x5, x6⟩ := box2r HB4.out
      have x7 : w.heap.size < wr.heap.size := Nat.lt_of_succ_lt x6
      obtain ⟨ra, rc, rfl⟩ := hrow.shape
      have HROW : Hid (RowsOwn wr w3.heap.size (.slice ra (prtN p j) rc) (prtN p j) U) := hrow
      have hgk : prtN p j ≤ j := prtN_le p j
      clear hrow hbr hokp
      by_cases hjl : j < m
      · have hji : (j : Int) < (m : Int) := by omega
        obtain ⟨W0, hW0⟩ : ∃ W, W = wr := ⟨_, rfl⟩
        subst hW0
        have HX : Hid (∀ W, Chain W0 W → W.cell? ⟨w.heap.size, 1, none⟩ = some (.slice qa m qcap) ∧ w.heap.size < W.heap.size ∧ Below w.heap.size w W) := fun W h => ⟨(Below.cell h (p := ⟨w.heap.size, 1, none⟩) x7).trans x1, Nat.lt_of_lt_of_le x7 (Below.size h), HW.out (HB4.out.trans (Below.mono h (by omega)))⟩
        have HJ : Hid (∀ W i, Chain W0 W → i < m → ∃ b off ub uo ucap, qa = some ⟨b, off, none⟩ ∧ b < W.heap.size ∧ ub < W.heap.size ∧ W.cell? ⟨b, off + i, none⟩ = some (.slice (some ⟨ub, uo, none⟩) n ucap) ∧ (W.cell? ⟨ub, uo + P * 3, none⟩ = some (.int .i64 (p i).kind) ∧ W.cell? ⟨ub, uo + P * 3 + 1, none⟩ = some (.int .i64 (p i).n) ∧ W.cell? ⟨ub, uo + P * 3 + 2, none⟩ = some (.string (p i).s)) ∧ (W.cell? ⟨ub, uo + Q * 3, none⟩ = some (.int .i64 ((R i).at_ Q).kind) ∧ W.cell? ⟨ub, uo + Q * 3 + 1, none⟩ = some (.int .i64 ((R i).at_ Q).n) ∧ W.cell? ⟨ub, uo + Q * 3 + 2, none⟩ = some (.string ((R i).at_ Q).s))) := fun W i h hi => by
          obtain ⟨b, off, u, e1, e2, e3, e4⟩ := HQ.out W i (HX.out W h).2.2 hi
          obtain ⟨ua, ucap, rfl, _, _, _, k3⟩ := e4
          obtain ⟨ub, uo, rfl, hub, k4⟩ := k3 (by omega)
          rw [HPR.out i]
          exact ⟨b, off, ub, uo, ucap, e1, Nat.lt_trans e2 (HX.out W h).2.1, hub, e3, k4 P hPn, k4 Q hQn⟩
        have hPi : (P : Int) < (n : Int) := by omega
        have hQi : (Q : Int) < (n : Int) := by omega
        have hnn : n ≤ 9223372036854775807 := by omega
        go_wp2_with fail
        go_loopw [17, 18] (fun bb i wr => ∃ k : Nat, k ≤ j ∧ i = .int .i64 k ∧ bb = .bool (fstT p j k) ∧ Chain W0 wr) (fun _ i _ => j - (intOf i).toNat)
        case atStart => exact ⟨0, Nat.zero_le _, rfl, rfl, Chain.refl _⟩
        case round =>
          clear x0 x1 x2 x3 x4 x5 x6 x7
          obtain ⟨k, hk, rfl, rfl, hch⟩ := hrel
          have HCH : Hid (Chain W0 wr) := hch
          obtain ⟨x1, x7, _⟩ := HX.out wr hch
          by_cases hkj : k < j
          · have hki : (k : Int) < (j : Int) := by omega
            have hkm : (k : Int) < (m : Int) := by omega
            obtain ⟨b, off, ub, uo, ucap, rfl, hb, hub, e1, ⟨a0, a1, a2⟩, _⟩ := HJ.out wr j hch hjl
            obtain ⟨_, _, ub', uo', ucap', e', _, hub', e1', ⟨b0, b1, b2⟩, _⟩ := HJ.out wr k hch (by omega)
            cases e'
            have HFS : Hid (fstT p j (k + 1) = (fstT p j k && !itB (p k) (p j))) := fstT_succ p j k
            clear hch
            cases hf : fstT p j k
            · have HF2 : Hid (fstT p j (k + 1) = false) := by
                have h : fstT p j (k + 1) = false := by rw [HFS.out, hf]; rfl
                exact h
              clear hf
              go_wp2_with fail
              go_quiet (fail)
              go_wp2_with fail
              go_roundw
              case rel => exact ⟨k + 1, by omega, by go_num, by rw [HF2.out], below_drawn HCH.out _⟩
              case measure => simp [intOf]; omega
            · have HF1 : Hid (∀ s, itB (p k) (p j) = s → fstT p j (k + 1) = !s) := fun s hs => by rw [HFS.out, hf, hs]; rfl
              clear hf
              cases hs : itB (p k) (p j)
              · have HF2 : Hid (fstT p j (k + 1) = true) := HF1.out _ hs
                have hx := itB_no hs
                clear hs
                generalize (p j).kind = xk at *
                generalize (p j).n = xn at *
                generalize (p j).s = xs at *
                generalize (p k).kind = yk at *
                generalize (p k).n = yn at *
                generalize (p k).s = ys at *
                rcases hx with h1 | ⟨h1, h2⟩ | ⟨h1, h2, h3⟩
                · have h1' : (yk == xk) = false := by simpa using h1
                  clear h1
                  go_wp2_with fail
                  go_quiet (fail)
                  go_wp2_with fail
                  go_roundw
                  case rel => exact ⟨k + 1, by omega, by go_num, by rw [HF2.out], below_drawn HCH.out _⟩
                  case measure => simp [intOf]; omega
                · subst h1
                  have h2' : (yn == xn) = false := by simpa using h2
                  clear h2
                  go_wp2_with fail
                  go_quiet (fail)
                  go_wp2_with fail
                  go_roundw
                  case rel => exact ⟨k + 1, by omega, by go_num, by rw [HF2.out], below_drawn HCH.out _⟩
                  case measure => simp [intOf]; omega
                · subst h1
                  subst h2
                  go_wp2_with fail
                  go_quiet (fail)
                  go_wp2_with fail
                  go_roundw
                  case rel => exact ⟨k + 1, by omega, by go_num, by rw [HF2.out], below_drawn HCH.out _⟩
                  case measure => simp [intOf]; omega
              · have HF2 : Hid (fstT p j (k + 1) = false) := HF1.out _ hs
                have hx := itB_iff.1 hs
                rw [hx] at b0 b1 b2
                clear hs hx
                go_wp2_with fail
                go_quiet (fail)
                go_wp2_with fail
                go_roundw
                case rel => exact ⟨k + 1, by omega, by go_num, by rw [HF2.out], below_drawn HCH.out _⟩
                case measure => simp [intOf]; omega
          · have e : k = j := by omega
            subst e
            have HCN : Hid (fstT p k k = fstB p k) := rfl
            cases hf : fstT p k k
            · have HFB : Hid (fstB p k = false) := hf
              clear hf hch
              go_wp2_with fail
              go_roundw
              case rel => exact ⟨k + 1, by omega, by go_num, by rw [prtN_no HFB.out]; exact HROW.out.below HCH.out, HBR.out.trans (Below.mono HCH.out hzr), fun t ht hft => by
                by_cases e : t = k
                · rw [e, HFB.out] at hft; cases hft
                · exact HOKP.out t (by omega) hft⟩
              case measure => simp [intOf]; omega
            · have HFB : Hid (fstB p k = true) := hf
              clear hf
              obtain ⟨W4, hW4⟩ : ∃ W, W = wr := ⟨_, rfl⟩
              subst hW4
              go_wp2_with fail
              go_loopw [19, 20] (fun v i wr => ∃ s : Nat, s ≤ m ∧ i = .int .i64 s ∧ wr.ownsRow W4.heap.size 40 3 v (keptN (isP p (p k)) s) (itCells (yP R Q m p (p k)) (keptN (isP p (p k)) s)) ∧ Chain W4 wr) (fun _ i _ => m - (intOf i).toNat)
              case atStart => exact ⟨0, Nat.zero_le _, rfl, World.ownsRow_nil _ _ _ _, Chain.refl _⟩
              case round =>
                clear x1 x7
                obtain ⟨s, hsm, rfl, hv, hch4⟩ := hrel
                have HC4 : Hid (Chain W4 wr) := hch4
                have hz4 : W4.heap.size ≤ wr.heap.size := Below.size hch4
                have hch0 : Chain W0 wr := hch.trans hch4
                obtain ⟨x1, x7, _⟩ := HX.out wr hch0
                obtain ⟨va, vc, rfl⟩ := own_shape hv
                have HV : Hid (wr.ownsRow W4.heap.size 40 3 (.slice va (keptN (isP p (p k)) s) vc) (keptN (isP p (p k)) s) (itCells (yP R Q m p (p k)) (keptN (isP p (p k)) s))) := hv
                have hks : keptN (isP p (p k)) s ≤ s := keptN_le _ _
                clear hv
                by_cases hsl : s < m
                · have hsi : (s : Int) < (m : Int) := by omega
                  obtain ⟨b, off, ub, uo, ucap, rfl, hb, hub, e1, ⟨a0, a1, a2⟩, _⟩ := HJ.out wr k hch0 hjl
                  obtain ⟨_, _, ub', uo', ucap', e', _, hub', e1', ⟨b0, b1, b2⟩, ⟨d0, d1, d2⟩⟩ := HJ.out wr s hch0 hsl
                  cases e'
                  clear hch4
                  cases hs : itB (p s) (p k)
                  · have HNO : Hid (keptN (isP p (p k)) (s + 1) = keptN (isP p (p k)) s) := keptN_no hs
                    have hx := itB_no hs
                    clear hs d0 d1 d2
                    generalize keptN (isP p (p k)) s = N at *
                    obtain ⟨xk, hxk⟩ : ∃ xk, xk = (p k).kind := ⟨_, rfl⟩
                    obtain ⟨xn, hxn⟩ : ∃ xn, xn = (p k).n := ⟨_, rfl⟩
                    obtain ⟨xs, hxs⟩ : ∃ xs, xs = (p k).s := ⟨_, rfl⟩
                    obtain ⟨yk, hyk⟩ : ∃ yk, yk = (p s).kind := ⟨_, rfl⟩
                    obtain ⟨yn, hyn⟩ : ∃ yn, yn = (p s).n := ⟨_, rfl⟩
                    obtain ⟨ys, hys⟩ : ∃ ys, ys = (p s).s := ⟨_, rfl⟩
                    rw [← hxk] at a0 hx
                    rw [← hxn] at a1 hx
                    rw [← hxs] at a2 hx
                    rw [← hyk] at b0 hx
                    rw [← hyn] at b1 hx
                    rw [← hys] at b2 hx
                    clear hxk hxn hxs hyk hyn hys
                    rcases hx with h1 | ⟨h1, h2⟩ | ⟨h1, h2, h3⟩
                    · have h1' : (yk == xk) = false := by simpa using h1
                      clear h1
                      go_wp2_with fail
                      go_quiet (fail)
                      go_wp2_with fail
                      go_roundw
                      case rel => exact ⟨s + 1, by omega, by go_num, by rw [HNO.out]; exact own_belowG HV.out (below_drawn (Chain.refl _) _), below_drawn HC4.out _⟩
                      case measure => simp [intOf]; omega
                    · subst h1
                      have h2' : (yn == xn) = false := by simpa using h2
                      clear h2
                      go_wp2_with fail
                      go_quiet (fail)
                      go_wp2_with fail
                      go_roundw
                      case rel => exact ⟨s + 1, by omega, by go_num, by rw [HNO.out]; exact own_belowG HV.out (below_drawn (Chain.refl _) _), below_drawn HC4.out _⟩
                      case measure => simp [intOf]; omega
                    · subst h1
                      subst h2
                      go_wp2_with fail
                      go_quiet (fail)
                      go_wp2_with fail
                      go_roundw
                      case rel => exact ⟨s + 1, by omega, by go_num, by rw [HNO.out]; exact own_belowG HV.out (below_drawn (Chain.refl _) _), below_drawn HC4.out _⟩
                      case measure => simp [intOf]; omega
                  · have HYS : Hid (keptN (isP p (p k)) (s + 1) = keptN (isP p (p k)) s + 1) := keptN_yes hs
                    have HAT : Hid (itCells (yP R Q m p (p k)) (keptN (isP p (p k)) s + 1) = itCells (yP R Q m p (p k)) (keptN (isP p (p k)) s) ++ elemI ((R s).at_ Q)) := by
                      have h := itCells_succ (yP R Q m p (p k)) (keptN (isP p (p k)) s)
                      have h2 : yP R Q m p (p k) (keptN (isP p (p k)) s) = (R s).at_ Q := by
                        unfold yP
                        rw [keptAt_at hsl hs]
                      rw [h2] at h
                      exact h
                    have hx := itB_iff.1 hs
                    rw [hx] at b0 b1 b2
                    clear hs hx
                    generalize keptN (isP p (p k)) s = N at *
                    go_upto_region 24 with fail
                    go_quiet (fail)
                    obtain ⟨W5, hW5⟩ : ∃ W, W = wr.drewN nq := ⟨_, rfl⟩
                    have hc5 : Chain wr W5 := by rw [hW5]; exact below_drawn (Chain.refl _) nq
                    rw [← hW5]
                    clear hW5 x1 x7 e1 e1' a0 a1 a2 b0 b1 b2 d0 d1 d2 hb hub hub'
                    obtain ⟨x1, x7, _⟩ := HX.out W5 (hch0.trans hc5)
                    obtain ⟨_, _, ub', uo', ucap', e', hb, hub', e1', _, ⟨d0, d1, d2⟩⟩ := HJ.out W5 s (hch0.trans hc5) hsl
                    cases e'
                    have HV5 : Hid (W5.ownsRow W4.heap.size 40 3 (.slice va N vc) N (itCells (yP R Q m p (p k)) N)) := own_belowG HV.out hc5
                    have HC5 : Hid (Chain W4 W5) := HC4.out.trans hc5
                    have hz5 : W4.heap.size ≤ W5.heap.size := Below.size HC5.out
                    clear hc5 hch0
                    generalize (R s).at_ Q = xq at *
                    go_wp2_with (first | (at_builtin; refine wpList_append_own _ rfl (.tmp 121) (.tmp 130) 37 rfl W4.heap.size 40 i0 _ 3 32 Tryd.underlying37 hi0 hz0 hz1 hz2 rfl (by decide) _ _ _ rfl (HV5.out.alloc _) ⟨W5.heap.size, 0, none⟩ 1 1 (elemI xq) rfl rfl (elemI_in xq) (elemI_one _) (by unfold maxLen; omega) (by omega) (by simp <;> omega) ?_; intro v6 w6 hown6 hgrow6 _; obtain ⟨va6, vc6, rfl⟩ := own_shape hown6; have HV6 : Hid (w6.ownsRow W4.heap.size 40 3 (.slice va6 (N + 1) vc6) (N + 1) (itCells (yP R Q m p (p k)) N ++ elemI xq)) := hown6; have HB6 : Hid (Chain W4 w6) := (HC5.out.alloc _).grown hgrow6 (by simp <;> omega) (fun z hz => (HV5.out.lt z hz).1); clear hown6 hgrow6))
                    go_roundw
                    case rel => exact ⟨s + 1, by omega, by go_num, by rw [HYS.out, HAT.out]; exact HV6.out, HB6.out⟩
                    case measure => simp [intOf]; omega
                · have e : s = m := by omega
                  subst e
                  have HIT : Hid (ItsIs wr (.slice va (keptN (isP p (p k)) s) vc) (keptN (isP p (p k)) s) (yP R Q s p (p k))) := (its_new HV.out (g := none) (fun k h => by cases h)).is
                  have CA : Hid (Calls Tryd.prog 18 #[.string which, .slice va (keptN (isP p (p k)) s) vc] wr fun e w' => e = .returned (.tuple #[.int .i64 (dA which (yP R Q s p (p k)) (keptN (isP p (p k)) s)), .bool (dOk which (yP R Q s p (p k)) (keptN (isP p (p k)) s))]) ∧ Chain wr w') := CAG.out _ _ _ HIT.out
                  have HC0 : Hid (Chain W0 wr) := hch0
                  have HDV : Hid (dOk which (yP R Q s p (p k)) (keptN (isP p (p k)) s) = true → dA which (yP R Q s p (p k)) (keptN (isP p (p k)) s) = agV (numG cnt R Q) (opG which) p (p k) s) := fun h => by rw [dA_yes h, HVAL.out]
                  have HBD : Hid (dOk which (yP R Q s p (p k)) (keptN (isP p (p k)) s) = false → F = 12) := HBP.out k hjl HFB.out
                  have HOK1 : Hid (dOk which (yP R Q s p (p k)) (keptN (isP p (p k)) s) = true → ∀ t, t < k + 1 → fstB p t = true → dOk which (yP R Q s p (p t)) (keptN (isP p (p t)) s) = true) := fun h t ht hft => by
                    by_cases e : t = k
                    · rw [e]; exact h
                    · exact HOKP.out t (by omega) hft
                  generalize dA which (yP R Q s p (p k)) (keptN (isP p (p k)) s) = dn at *
                  cases hd : dOk which (yP R Q s p (p k)) (keptN (isP p (p k)) s)
                  · have HF12 : Hid (F = 12) := HBD.out hd
                    rw [hd] at CA
                    clear hd hch hch0 hch4
                    go_wp2_with (first | (go_at_call 18; refine CA.out.mono ?_; rintro e w6 ⟨rfl, hb6⟩; have HB6 : Hid (Below (w.heap.size + 2) ((w.alloc (.cells #[.slice ca n ccap, .slice qa s qcap] 25)).alloc (.cells #[.slice none 0 0, .slice none 0 0] 25)) w6) := HB4.out.trans (Below.mono (HC0.out.trans hb6) (by omega)); obtain ⟨y0, y1, y2, y3, y4, y5, y6⟩ := box2r HB6.out; clear hb6))
                    refine bodyPost_ret (v := .tuple #[.agg #[.slice none 0 0, .slice none 0 0], .int .i64 12]) (by simp [results, Tryd.results6, go_sem, y2, y3]) rfl ⟨_, _, by rw [HF12.out], ?_, ?_, ((HW.out HB6.out).setCell (by simp <;> omega) _).setCell (by simp <;> omega) _⟩
                    · rw [HF12.out]; exact nil_strs _ _
                    · rw [HF12.out]; exact nil_rows _ _
                  · have HDN : Hid (dn = agV (numG cnt R Q) (opG which) p (p k) s) := HDV.out hd
                    have HOK2 : Hid (∀ t, t < k + 1 → fstB p t = true → dOk which (yP R Q s p (p t)) (keptN (isP p (p t)) s) = true) := HOK1.out hd
                    rw [hd] at CA
                    have HRU : Hid ((U (prtN p k)).len = 2 ∧ (U (prtN p k)).at_ 0 = p k ∧ (U (prtN p k)).at_ 1 = ⟨2, dn, ⟨#[]⟩⟩) := by
                      have h := HROWU.out k hjl HFB.out
                      rw [← HDN.out] at h
                      exact h
                    have hN24 : (prtN p k + 1) * 24 ≤ 140737488355328 := by omega
                    clear hd hch hch0 hch4
                    go_wp2_with (first
                      | (go_at_call 18; refine CA.out.mono ?_; rintro e w6 ⟨rfl, hb6⟩; have HC6 : Hid (Chain W0 w6) := HC0.out.trans hb6; clear x1 x7; obtain ⟨x1, x7, _⟩ := HX.out w6 HC6.out; obtain ⟨b, off, ub, uo, ucap, rfl, hb, hub, e1, ⟨a0, a1, a2⟩, _⟩ := HJ.out w6 k HC6.out hjl; have HR6 : Hid (RowsOwn w6 w3.heap.size (.slice ra (prtN p k) rc) (prtN p k) U) := HROW.out.below HC6.out; have hz6 : w3.heap.size ≤ w6.heap.size := Nat.le_trans hzr (Below.size HC6.out); clear hb6)
                      | (at_builtin; refine wpList_push_row rfl (.tmp 141) (.tmp 153) rfl w3.heap.size (prtN p k) (.slice ra (prtN p k) rc) U rfl ((HR6.out.alloc _).alloc _) (by simp; omega) ⟨w6.heap.size + 1, 0, none⟩ 1 (.slice (some ⟨w6.heap.size, 0, none⟩) 2 2) rfl (by simp) (by rw [HRU.out.1]; exact (two_new (x := p k) (y := ⟨2, dn, ⟨#[]⟩⟩) hz6 (fun z hz => (HR6.out.lt z hz).2) HRU.out.2.1 HRU.out.2.2).alloc _) hN24 ?_; intro v7 w7 hr7 hsh7 hg7; obtain ⟨va7, vc7, rfl⟩ := hsh7; have HR7 : Hid (RowsOwn w7 w3.heap.size (.slice va7 (prtN p k + 1) vc7) (prtN p k + 1) U) := hr7; have HB7 : Hid (Below w3.heap.size w6 w7) := (((Below.refl _ _).alloc hz6 _).alloc (by simp; omega) _).grown hg7 (by simp; omega) (fun z hz => (HR6.out.lt z hz).1); clear hr7 hg7))
                    go_roundw
                    case rel => exact ⟨k + 1, by omega, by go_num, by rw [prtN_yes HFB.out]; exact HR7.out, (HBR.out.trans (Below.mono HC6.out hzr)).trans HB7.out, HOK2.out⟩
                    case measure => simp [intOf]; omega
      · have e : j = m := by omega
        subst e
        have HFM : Hid (F = madeF (grC part name) 2 (prtN p j)) := HALL.out HOKP.out
        have hgm : prtN p j ≤ j := prtN_le p j
        have CO : Hid (Calls Tryd.prog 19 #[.slice (some ⟨wr.heap.size, 0, none⟩) 2 2, .slice ra (prtN p j) rc] (wr.alloc (.cells #[.string part, .string name] 9)) fun e w' => ∃ c' q', e = .returned (.tuple #[.agg #[c', q'], .int .i64 F]) ∧ StrsFrom w' (wr.heap.size + 1) c' (okN F 2) (grC part name) ∧ q' = keptV F (.slice ra (prtN p j) rc) ∧ Below (wr.heap.size + 1) (wr.alloc (.cells #[.string part, .string name] 9)) w') := by
          have hls : StrsIs (wr.alloc (.cells #[.string part, .string name] 9)) (.slice (some ⟨wr.heap.size, 0, none⟩) 2 2) 2 (grC part name) := ⟨_, _, rfl, Nat.le_refl _, by unfold maxLen; omega, (fun h => nomatch h), fun _ => ⟨_, _, rfl, by simp, fun i hi => by
            have : i = 0 ∨ i = 1 := by omega
            rcases this with rfl | rfl <;> simp [grC]⟩⟩
          have h := relOf_is (.slice (some ⟨wr.heap.size, 0, none⟩) 2 2) (.slice ra (prtN p j) rc) 2 (prtN p j) (grC part name) U _ hls (HROW.out.alloc _).is (gr_fine part name hpm hnm)
          rw [← HFM.out, show (wr.alloc (.cells #[.string part, .string name] 9)).heap.size = wr.heap.size + 1 by simp] at h
          exact h
        by_cases h0 : F = 0
        · have HF0 : Hid (F = 0) := h0
          rw [h0] at CO
          clear h0
          go_wp2_with (first | (go_at_call 19; refine CO.out.mono ?_; rintro e w5 ⟨c5, q5, rfl, hc5, hq5, hb5⟩; have hq6 : q5 = .slice ra (prtN p j) rc := hq5; subst hq6; have HC5 : Hid (StrsFrom w5 (w.heap.size + 2) c5 2 (grC part name)) := StrsFrom.weaken hc5 (by omega); have hbw : Chain wr w5 := ((Below.refl _ _).alloc (Nat.le_refl _) _).trans (Below.mono hb5 (Nat.le_succ _)); have HR5 : Hid (RowsOwn w5 w3.heap.size (.slice ra (prtN p j) rc) (prtN p j) U) := HROW.out.below hbw; have HB5 : Hid (Below (w.heap.size + 2) ((w.alloc (.cells #[.slice ca n ccap, .slice qa j qcap] 25)).alloc (.cells #[.slice none 0 0, .slice none 0 0] 25)) w5) := HB4.out.trans (Below.mono hbw (by omega)); clear x0 x1 x2 x3 x4 x5 x6 x7; obtain ⟨x0, x1, x2, x3, x4, x5, x6⟩ := box2r HB5.out; obtain ⟨ca5, cc5, rfl, _⟩ := hc5; clear hb5 hq5 hbw CO))
          refine bodyPost_ret (v := .tuple #[.agg #[.slice ca5 (okN 0 2) cc5, .slice ra (prtN p j) rc], .int .i64 0]) (by simp [results, Tryd.results6, go_sem, x2, x3]) rfl ⟨_, _, by rw [HF0.out], ?_, ?_, ((HW.out HB5.out).setCell (by simp <;> omega) _).setCell (by simp <;> omega) _⟩
          · rw [HF0.out]; exact ((HC5.out.setCell (by simp) _).setCell (by simp) _).is
          · rw [HF0.out]; exact ((HR5.out.setCell (by simp <;> omega) _).setCell (by simp <;> omega) _).is
        · have HFN : Hid (¬ F = 0) := h0
          have HKV : Hid (∀ q, keptV F q = .slice none 0 0) := fun q => if_neg h0
          have HON : Hid (∀ z, okN F z = 0) := fun z => if_neg h0
          clear h0
          go_wp2_with (first | (go_at_call 19; refine CO.out.mono ?_; rintro e w5 ⟨c5, q5, rfl, hc5, hq5, hb5⟩; rw [HKV.out] at hq5; subst hq5; rw [HON.out] at hc5; have hbw : Chain wr w5 := ((Below.refl _ _).alloc (Nat.le_refl _) _).trans (Below.mono hb5 (Nat.le_succ _)); have HC5 : Hid (StrsFrom w5 (w.heap.size + 2) c5 0 (grC part name)) := StrsFrom.weaken hc5 (by omega); have HB5 : Hid (Below (w.heap.size + 2) ((w.alloc (.cells #[.slice ca n ccap, .slice qa j qcap] 25)).alloc (.cells #[.slice none 0 0, .slice none 0 0] 25)) w5) := HB4.out.trans (Below.mono hbw (by omega)); clear x0 x1 x2 x3 x4 x5 x6 x7; obtain ⟨x0, x1, x2, x3, x4, x5, x6⟩ := box2r HB5.out; obtain ⟨ca5, cc5, rfl, _⟩ := hc5; clear hb5 hbw CO))
          refine bodyPost_ret (v := .tuple #[.agg #[.slice ca5 0 cc5, .slice none 0 0], .int .i64 F]) (by simp [results, Tryd.results6, go_sem, x2, x3]) rfl ⟨_, _, rfl, ?_, ?_, ((HW.out HB5.out).setCell (by simp <;> omega) _).setCell (by simp <;> omega) _⟩
          · rw [HON.out]; exact ((HC5.out.setCell (by simp) _).setCell (by simp) _).is
          · rw [HON.out]; exact nil_rows _ _
end Go.Proofs.YtjgihlmefaakkaaDoor
