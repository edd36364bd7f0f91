/-
  CONTRACT of rel.Group, where the relation, the aggregate and the columns may be.
-/
import Derived.Test.YtkcejelmohameaaGreatDoorRlCrossI
import Derived.Test.YtkcejelmohameaaGreatDoorRlCMap
import Derived.Test.YtkcejelmohameaaGreatDoorRlUnion
import Derived.Deep.RegionLaw
import Derived.Deep.RegionHeld3
import Derived.Sort.AtCall
set_option linter.unusedVariables false
namespace Go.Proofs.YtkcejelmohameaaGreatDoor
set_option maxRecDepth 100000
open Go.RowKit Go.WideShapes

/-- the columns of a Group -/
def grC (part name : ByteArray) : Nat → ByteArray := fun i => if i = 0 then part else name
/-- what Group answers, where the relation, the aggregate and the columns may be -/
def grF (cnt : Bool) (knd num : Nat → Int) (op : Int → Int → Int) (p : Nat → It) (m : Nat) (part name : ByteArray) : Int :=
  if (List.range m).any (refB cnt knd num op p) = true then 12 else madeF (grC part name) 2 (prtN p m)
def kndG (R : Nat → Row) (Q : Nat) (i : Nat) : Int := ((R i).at_ Q).kind
def numG (cnt : Bool) (R : Nat → Row) (Q : Nat) (i : Nat) : Int := if cnt = true then 1 else ((R i).at_ Q).n
def prtG (R : Nat → Row) (P : Nat) (i : Nat) : It := (R i).at_ P
set_option maxHeartbeats 6400000 in
theorem group_yes (c q : Value) (name part which col : ByteArray) (cnt : Bool) (n m P Q : Nat) (C : Nat → ByteArray) (R : Nat → Row) (w : World) (hc : StrsIs w c n C) (hq : RowsIs w q m R) (hf : StrsFine n C) (hg : RowsFine m R) (hT : Tabs w) (h0 : relF C n R m = 0)
    (hG : isG which) (hcnt : cnt = true ↔ which = tCount) (hP : colI C n part = (P : Int)) (hQ : colI C n col = (Q : Int)) (hPn : P < n) (hQn : Q < n) (hpm : part.size ≤ maxLen) (hnm : name.size ≤ maxLen) :
    Calls Tryz.prog 94 #[.agg #[c, q], .string name, .string part, .string which, .string col] w fun e w' => ∃ c1 q1, e = .returned (.tuple #[.agg #[c1, q1], .int .i64 (grF cnt (kndG R Q) (numG cnt R Q) (opG which) (prtG R P) m part name)]) ∧
      FreshRel w w' c1 q1 (okN (grF cnt (kndG R Q) (numG cnt R Q) (opG which) (prtG R P) m part name) 2) (okN (grF cnt (kndG R Q) (numG cnt R Q) (opG which) (prtG R P) m part name) (prtN (prtG R P) m)) (grC part name) (grR (numG cnt R Q) (opG which) (prtG R P) m m) ∧ Below w.heap.size w w' := by
  have HW : Hid (∀ {W : World} {o o' : Obj}, Below (w.heap.size + 2) ((w.alloc o).alloc o') W → Below w.heap.size w W) := fun h => (below_two _ _).trans (h.mono (by omega))
  have C1 : Hid (∀ o o', Calls Tryz.prog 93 #[.agg #[c, q]] ((w.alloc o).alloc o') fun e w' => e = .returned (.int .i64 0) ∧ Below (w.heap.size + 2) ((w.alloc o).alloc o') w') := fun o o' => by
    have h := relCheck_is c q n m C R _ (hc.below (below_two o o')) (hq.below (below_two o o')) hf hg (Utf8Tabs_below hT (below_two o o'))
    rw [h0] at h
    rwa [show ((w.alloc o).alloc o').heap.size = w.heap.size + 2 by simp] at h
  have CA : Hid (∀ W, Calls Tryz.prog 121 #[.string which] W fun e w' => e = .returned (.bool true) ∧ w' = W) := fun W => aggregate_yes which hG W
  have CP : Hid (∀ W, Below w.heap.size w W → Calls Tryz.prog 122 #[c, .string part] W fun e w' => e = .returned (.tuple #[.int .i64 (P : Int), .int .i64 0]) ∧ w' = W) := fun W hW => by
    have h := column_is c n C part W (hc.below hW)
    unfold colV colF at h
    rwa [hP, if_neg (by omega), if_neg (by omega)] at h
  have CQ : Hid (∀ W, Below w.heap.size w W → Calls Tryz.prog 122 #[c, .string col] W fun e w' => e = .returned (.tuple #[.int .i64 (Q : Int), .int .i64 0]) ∧ w' = W) := fun W hW => by
    have h := column_is c n C col W (hc.below hW)
    unfold colV colF at h
    rwa [hQ, if_neg (by omega), if_neg (by omega)] at h
  have hm6 : m ≤ 1000000 := (relF_zero h0).2.1
  have hn8 : n ≤ 8 := colsF_le (relF_zero h0).1
  have HLEN : Hid (∀ i, i < m → (R i).len = n) := row_len h0
  have HFIT : Hid (∀ i, i < m → ∀ t, t < n → fitI ((R i).at_ t)) := fit_rel h0 hg
  have HMB : Hid (∀ i, i < m → -1099511627776 ≤ ((R i).at_ Q).n ∧ ((R i).at_ Q).n ≤ 1099511627776) := fun i hi => may_bound (may_rel h0 i hi Q hQn)
  obtain ⟨qa, qcap, rfl, _, _, _, q3⟩ := hq
  have HQ : Hid (∀ W i, Below w.heap.size w W → i < m → ∃ b off u, qa = some ⟨b, off, none⟩ ∧ b < w.heap.size ∧ W.cell? ⟨b, off + i, none⟩ = some u ∧ ItsIs w u (R i).len (R i).at_) := fun W i hW hi => by
    obtain ⟨b, off, e1, e2, e3⟩ := q3 (by omega)
    obtain ⟨u, e4, e5⟩ := e3 i hi
    exact ⟨b, off, u, e1, e2, (hW.cell (p := ⟨b, off + i, none⟩) e2).trans e4, e5⟩
  obtain ⟨ca, ccap, rfl, _⟩ := hc
  clear hf hg hT q3 hP hQ h0
  obtain ⟨p, hp⟩ : ∃ p, p = prtG R P := ⟨_, rfl⟩
  obtain ⟨num, hnum⟩ : ∃ num, num = numG cnt R Q := ⟨_, rfl⟩
  obtain ⟨knd, hknd⟩ : ∃ knd, knd = kndG R Q := ⟨_, rfl⟩
  obtain ⟨op, hop⟩ : ∃ op, op = opG which := ⟨_, rfl⟩
  have HPR : Hid (∀ i, p i = (R i).at_ P) := fun i => by rw [hp]; rfl
  have HNR : Hid (∀ i, num i = if cnt = true then 1 else ((R i).at_ Q).n) := fun i => by rw [hnum]; rfl
  have HKR : Hid (∀ i, knd i = ((R i).at_ Q).kind) := fun i => by rw [hknd]; rfl
  rw [← hp, ← hnum, ← hknd, ← hop]
  have HNB : Hid (∀ i, i < m → -1099511627776 ≤ num i ∧ num i ≤ 1099511627776) := fun i hi => by
    rw [HNR.out]
    cases cnt
    · exact HMB.out i hi
    · exact ⟨by simp, by simp⟩
  have HPF : Hid (∀ i, i < m → fitI (p i)) := fun i hi => by rw [HPR.out]; exact HFIT.out i hi P hPn
  have HOP : Hid (op = opG which) := hop
  clear hp hnum hknd hop
  have hmm := @run_makeMap Tryz.prog
  go_enter Tryz.func94, Tryz.ntmps94
  go_wp2_with (first
    | (go_at_call 93; refine (C1.out _ _).mono ?_; rintro e w1 ⟨rfl, hb1⟩; have HB1 : Hid (Below (w.heap.size + 2) ((w.alloc (.cells #[.slice ca n ccap, .slice qa m qcap] 40)).alloc (.cells #[.slice none 0 0, .slice none 0 0] 40)) w1) := hb1; obtain ⟨x0, x1, x2, x3, x4, x5, x6⟩ := box2r hb1; have x7 : w.heap.size < w1.heap.size := Nat.lt_of_succ_lt x6; have x7a : w.heap.size < w1.heap.size + 1 := Nat.lt_succ_of_lt x7; have x7b : w.heap.size < w1.heap.size + 1 + 1 := Nat.lt_succ_of_lt x7a; clear hb1)
    | (go_at_call 121; refine (CA.out _).mono ?_; rintro e w2 ⟨rfl, hw2⟩; obtain rfl := hw2.symm)
    | (go_at_call 122; refine (CP.out _ (HW.out HB1.out)).mono ?_; rintro e w2 ⟨rfl, hw2⟩; obtain rfl := hw2.symm; clear CP)
    | (go_at_call 122; refine (CQ.out _ (HW.out HB1.out)).mono ?_; rintro e w2 ⟨rfl, hw2⟩; obtain rfl := hw2.symm))
  clear CQ CA hmm
  obtain ⟨w3, hw3⟩ : ∃ W, W = ((w1.alloc (.cells #[.string part, .string name] 9)).alloc (.cells #[.slice (some ⟨w1.heap.size, 0, none⟩) 2 2, .slice none 0 0] 40)).alloc (.map #[] 0) := ⟨_, rfl⟩
  have HB3 : Hid (Below w1.heap.size w1 w3) := by
    have h : Below w1.heap.size w1 w3 := by rw [hw3]; exact (((Below.refl _ _).alloc (Nat.le_refl _) _).alloc (by simp) _).alloc (by simp; omega) _
    exact h
  have hz3 : w3.heap.size = w1.heap.size + 1 + 1 + 1 := by rw [hw3]; simp
  have HZ3 : Hid (w1.heap.size + 1 + 1 < w3.heap.size) := by
    have h : w1.heap.size + 1 + 1 < w3.heap.size := by omega
    exact h
  have hA3 : w3.heap[w1.heap.size]? = some (.cells #[.string part, .string name] 9) := by
    rw [hw3, Below.heap_alloc _ _ _ (by simp; omega), Below.heap_alloc _ _ _ (by simp), heap_alloc_new]
  have hB3 : w3.heap[w1.heap.size + 1]? = some (.cells #[.slice (some ⟨w1.heap.size, 0, none⟩) 2 2, .slice none 0 0] 40) := by
    rw [hw3, Below.heap_alloc _ _ _ (by simp)]
    have h := heap_alloc_new (w1.alloc (.cells #[.string part, .string name] 9)) (.cells #[.slice (some ⟨w1.heap.size, 0, none⟩) 2 2, .slice none 0 0] 40)
    rwa [show (w1.alloc (.cells #[.string part, .string name] 9)).heap.size = w1.heap.size + 1 by simp] at h
  have HK3 : Hid (StrsKept w3 w1.heap.size (w1.heap.size + 1) (Value.slice none 0 0).ownBlock (.slice (some ⟨w1.heap.size, 0, none⟩) 2 2) 2 (grC part name)) := ⟨_, _, rfl, Nat.le_refl _, by unfold maxLen; omega, (fun h => nomatch h), fun _ => ⟨w1.heap.size, 0, rfl, by omega, Nat.le_refl _, by omega, (fun h => nomatch h), fun i hi => by
    have : i = 0 ∨ i = 1 := by omega
    rcases this with rfl | rfl <;> simp [World.cell?, hA3, grC]⟩⟩
  have HM3 : Hid (PMap w3 (w1.heap.size + 1 + 1) 0 (prtK p m)) := by
    have h := PMap.made ((w1.alloc (.cells #[.string part, .string name] 9)).alloc (.cells #[.slice (some ⟨w1.heap.size, 0, none⟩) 2 2, .slice none 0 0] 40)) (prtK p m)
    rw [show ((w1.alloc (.cells #[.string part, .string name] 9)).alloc (.cells #[.slice (some ⟨w1.heap.size, 0, none⟩) 2 2, .slice none 0 0] 40)).heap.size = w1.heap.size + 1 + 1 by simp, ← hw3] at h
    exact h
  have HT3 : Hid (w3.cell? ⟨w1.heap.size + 1, 0, none⟩ = some (.slice (some ⟨w1.heap.size, 0, none⟩) 2 2) ∧ w3.cell? ⟨w1.heap.size + 1, 1, none⟩ = some (.slice none 0 0) ∧ w3.frozen? ⟨w1.heap.size + 1, 1, none⟩ = false) := by
    have h : w3.cell? ⟨w1.heap.size + 1, 0, none⟩ = some (.slice (some ⟨w1.heap.size, 0, none⟩) 2 2) ∧ w3.cell? ⟨w1.heap.size + 1, 1, none⟩ = some (.slice none 0 0) ∧ w3.frozen? ⟨w1.heap.size + 1, 1, none⟩ = false := by simp [World.cell?, World.frozen?, hB3]
    exact h
  rw [← hw3]
  clear hw3 hz3 hA3 hB3 x0 x1 x2 x3 x4 x5 x7a x7b
  go_loopw [66] (fun v wr => ∃ (k : Nat) (rv : Value) (blk : Nat → Nat), k ≤ m ∧ v = .int .i64 k ∧ wr.cell? ⟨w1.heap.size + 1, 0, none⟩ = some (.slice (some ⟨w1.heap.size, 0, none⟩) 2 2) ∧ wr.cell? ⟨w1.heap.size + 1, 1, none⟩ = some rv ∧ wr.frozen? ⟨w1.heap.size + 1, 1, none⟩ = false ∧ GrpRows wr (w1.heap.size + 1 + 1) rv (prtN p k) (grR num op p m k) blk ∧ PMap wr (w1.heap.size + 1 + 1) (prtN p k) (prtK p m) ∧ StrsKept wr w1.heap.size (w1.heap.size + 1) rv.ownBlock (.slice (some ⟨w1.heap.size, 0, none⟩) 2 2) 2 (grC part name) ∧ Below w1.heap.size w1 wr ∧ w1.heap.size + 1 + 1 < wr.heap.size ∧ ∀ i, i < k → refB cnt knd num op p i = false) (fun v _ => m - (intOf v).toNat)
  case atStart => exact ⟨0, .slice none 0 0, fun _ => 0, Nat.zero_le _, rfl, HT3.out.1, HT3.out.2.1, HT3.out.2.2, GrpRows.nil _ _ _ _, HM3.out, HK3.out, HB3.out, HZ3.out, fun i hi => by omega⟩
  case round =>
    obtain ⟨k, rv, blk, hk, rfl, t0, t1, tf, hrow, hpm, hkept, hbr, hTz, hrf⟩ := hrel
    have HB4 : Hid (Below (w.heap.size + 2) ((w.alloc (.cells #[.slice ca n ccap, .slice qa m qcap] 40)).alloc (.cells #[.slice none 0 0, .slice none 0 0] 40)) wr) := HB1.out.trans (hbr.mono (by omega))
    obtain ⟨x0, x1, x2, x3, x4, x5, x8⟩ := box2r HB4.out
    have x9 : w.heap.size < wr.heap.size := by omega
    obtain ⟨ra, rc, rfl⟩ := hrow.shape
    have HROW : Hid (GrpRows wr (w1.heap.size + 1 + 1) (.slice ra (prtN p k) rc) (prtN p k) (grR num op p m k) blk) := hrow
    have HPM : Hid (PMap wr (w1.heap.size + 1 + 1) (prtN p k) (prtK p m)) := hpm
    have HKEPT : Hid (StrsKept wr w1.heap.size (w1.heap.size + 1) (Value.slice ra (prtN p k) rc).ownBlock (.slice (some ⟨w1.heap.size, 0, none⟩) 2 2) 2 (grC part name)) := hkept
    have HBR : Hid (Below w1.heap.size w1 wr) := hbr
    have HRF : Hid (∀ i, i < k → refB cnt knd num op p i = false) := hrf
    have hgk : prtN p k ≤ k := prtN_le p k
    clear hrow hpm hkept hbr hrf
    by_cases hkm : k < m
    · obtain ⟨b, off, u, rfl, hb0, e1, hu⟩ := HQ.out wr k (HW.out HB4.out) hkm
      have hbz : b < wr.heap.size := by omega
      have hki : (k : Int) < (m : Int) := by omega
      obtain ⟨ua, ucap, rfl, u1, u2, _, u3⟩ := hu
      rw [HLEN.out k hkm] at u1 u3 e1
      obtain ⟨ub, uo, rfl, hub0, u4⟩ := u3 (by omega)
      have hub : ub < wr.heap.size := Nat.lt_trans hub0 x9
      have hcell : ∀ s, wr.cell? ⟨ub, s, none⟩ = w.cell? ⟨ub, s, none⟩ := fun s => (HW.out HB4.out).cell (p := ⟨ub, s, none⟩) hub0
      obtain ⟨a0, a1, a2⟩ := u4 Q hQn
      obtain ⟨b0, b1, b2⟩ := u4 P hPn
      rw [← hcell] at a0 a1 a2 b0 b1 b2
      clear hcell
      have hQi : (Q : Int) < (n : Int) := by omega
      have hPi : (P : Int) < (n : Int) := by omega
      clear u3 u4
      rw [← HPR.out k] at b0 b1 b2
      have hfit : fitI (p k) := HPF.out k hkm
      by_cases hok : cnt = true ∨ knd k = 2
      · have CC : Hid (∀ W, Calls Tryz.prog 123 #[.string which, .agg #[.int .i64 ((R k).at_ Q).kind, .int .i64 ((R k).at_ Q).n, .string ((R k).at_ Q).s]] W fun e w' => e = .returned (.tuple #[.int .i64 (num k), .int .i64 0]) ∧ Chain W w') := fun W => by
          rw [HNR.out k]
          exact counts_gen which cnt hG hcnt ((R k).at_ Q) (by rw [← HKR.out k]; exact hok) W
        have hnb := HNB.out k hkm
        generalize (R k).at_ Q = xq at *
        cases hfb : fstB p k
        · -- a part that came ahead
          obtain ⟨i, hi, hKi⟩ := prt_place (m := m) hkm hfb
          have hlk := fun (W : World) (hW : W.heap[w1.heap.size + 1 + 1]? = wr.heap[w1.heap.size + 1 + 1]?) => (HPM.out.keep hW).look_yes hi (fun j hj e => prt_inj (k := k) (by omega) hj hi e)
          rw [hKi] at hlk
          unfold itV at hlk
          obtain ⟨g, gcap, hgv, hg1, hg2, hg3, hg4, hg5⟩ := HROW.out.at hi
          simp only [Value.slice.injEq, true_and] at hgv
          obtain ⟨rfl, rfl⟩ := hgv
          have hav : ((grR num op p m k i).at_ 1).n = agV num op p (p k) k := by
            have h : ((grR num op p m k i).at_ 1).n = agV num op p (prtK p m i) k := rfl
            rw [h, hKi]
          rw [hav] at hg4
          have hab : -1099511627776 ≤ agV num op p (p k) k ∧ agV num op p (p k) k ≤ 1099511627776 := agV_bound HRF.out (fun i hi => HNB.out i (by omega))
          have CWI : Hid (∀ W, Calls Tryz.prog 125 #[.string which, .int .i64 (agV num op p (p k) k), .int .i64 (num k)] W fun e w' => e = .returned (.int .i64 (op (agV num op p (p k) k) (num k))) ∧ w' = W) := fun W => by
            have h := with_is which hG _ _ hab hnb W
            rw [← HOP.out] at h
            exact h
          obtain ⟨nv, hnv⟩ : ∃ nv, nv = op (agV num op p (p k) k) (num k) := ⟨_, rfl⟩
          have HNV : Hid (nv = op (agV num op p (p k) k) (num k)) := hnv
          rw [← hnv] at CWI
          have hiN : (i : Int) < (prtN p k : Int) := by omega
          have HHI : Hid (i < prtN p k ∧ prtK p m i = p k) := ⟨hi, hKi⟩
          have HFB : Hid (fstB p k = false) := hfb
          have HOK : Hid (cnt = true ∨ knd k = 2) := hok
          have HLK : Hid (∀ W : World, W.heap[w1.heap.size + 1 + 1]? = wr.heap[w1.heap.size + 1 + 1]? → Sem.run Tryz.prog (Instr.lookup 141 (Value.map (some (w1.heap.size + 1 + 1))) (Value.agg #[Value.int IntKind.i64 (p k).kind, Value.int IntKind.i64 (p k).n, Value.string (p k).s]) true) W = Result.ok (Value.tuple #[Value.int IntKind.i64 (i : Int), Value.bool true]) W) := hlk
          clear hnv hlk hi hKi hfb hok hav hab hnb
          by_cases hin : -1099511627776 ≤ nv ∧ nv ≤ 1099511627776
          · have CIB : Hid (∀ W, Calls Tryz.prog 126 #[.int .i64 nv] W fun e w' => e = .returned (.bool true) ∧ w' = W) := fun W => by
              have h := inBounds_any nv W
              rwa [show inB nv (-1099511627776) 1099511627776 = true by unfold inB; exact decide_eq_true hin] at h
            have HIN : Hid (-1099511627776 ≤ nv ∧ nv ≤ 1099511627776) := hin
            clear hin
            go_wp2_with (first
              | (go_at_call 123; refine (CC.out _).mono ?_; rintro e w5 ⟨rfl, hb5⟩; have HB5 : Hid (Chain wr w5) := hb5; have y0 := (Below.cell hb5 (p := ⟨ub, uo + P * 3, none⟩) hub).trans b0; have y1 := (Below.cell hb5 (p := ⟨ub, uo + P * 3 + 1, none⟩) hub).trans b1; have y2 := (Below.cell hb5 (p := ⟨ub, uo + P * 3 + 2, none⟩) hub).trans b2; have y3 := (Below.cell hb5 (p := ⟨w1.heap.size + 1, 1, none⟩) (by show w1.heap.size + 1 < _; omega)).trans t1; have y4 := (Below.cell hb5 (p := ⟨g, i, none⟩) hg1).trans hg2; have y5 := (Below.cell hb5 (p := ⟨blk i, 4, none⟩) hg3).trans hg4; have y6 := (Below.frozen hb5 (p := ⟨blk i, 4, none⟩) hg3).trans hg5; have y7 := HLK.out w5 (Below.block hb5 _ hTz); have z5 : wr.heap.size ≤ w5.heap.size := Below.size hb5; have z6 : ub < w5.heap.size := Nat.lt_of_lt_of_le hub z5; have z7 : blk i < w5.heap.size := Nat.lt_of_lt_of_le hg3 z5; have z8 : g < w5.heap.size := Nat.lt_of_lt_of_le hg1 z5; have z9 : w1.heap.size + 1 < w5.heap.size := (by omega); clear hb5 b0 b1 b2 t1 hg2 hg4 hg5 a0 a1 a2 e1 CC)
              | (go_at_call 125; refine (CWI.out _).mono ?_; rintro e w6 ⟨rfl, hw6⟩; obtain rfl := hw6.symm)
              | (go_at_call 126; refine (CIB.out _).mono ?_; rintro e w6 ⟨rfl, hw6⟩; obtain rfl := hw6.symm))
            go_roundw
            case rel =>
              obtain ⟨hi, hKi⟩ := HHI.out
              have hN : prtN p (k + 1) = prtN p k := prtN_no HFB.out
              have hbi : w1.heap.size + 1 + 1 < blk i := (HROW.out.2.1 i hi).2.1
              have hT1 : w1.heap.size + 1 < wr.heap.size := by omega
              refine ⟨k + 1, .slice (some ⟨g, 0, none⟩) (prtN p k) rc, blk, by omega, by go_num, ?_, ?_, ?_, ?_, ?_, ?_, ?_, ?_, ?_⟩
              · exact (World.cell?_of_block (a := ⟨w1.heap.size + 1, 0, none⟩) (Below.heap_setCell _ _ _ _ (by simp; omega))).trans ((Below.cell HB5.out (p := ⟨w1.heap.size + 1, 0, none⟩) hT1).trans t0)
              · exact (World.cell?_of_block (a := ⟨w1.heap.size + 1, 1, none⟩) (Below.heap_setCell _ _ _ _ (by simp; omega))).trans y3
              · exact (World.frozen?_of_block (a := ⟨w1.heap.size + 1, 1, none⟩) (Below.heap_setCell _ _ _ _ (by simp; omega))).trans ((Below.frozen HB5.out (p := ⟨w1.heap.size + 1, 1, none⟩) hT1).trans tf)
              · rw [hN]
                refine (HROW.out.keep (fun b _ h2 => Below.block HB5.out b h2)).set hi nv ⟨rfl, rfl⟩ (fun j hj => ?_)
                by_cases e : j = i
                · subst e
                  rw [if_pos rfl]
                  unfold grR
                  rw [hKi, agV_more HFB.out, ← HNV.out]
                  rfl
                · rw [if_neg e]
                  exact (grR_new (fun e' => e (prt_inj (k := k) (by omega) hj hi (by rw [← e', hKi])))).symm
              · rw [hN]
                exact HPM.out.keep ((Below.heap_setCell _ _ _ _ (by simp; omega)).trans (Below.block HB5.out _ hTz))
              · exact HKEPT.out.keep (by have := Below.size HB5.out; simp; omega) (fun b h1 h2 h3 h4 => ⟨(Below.heap_setCell _ _ _ _ (by simp; omega)).trans (Below.block HB5.out _ h3), h4⟩)
              · exact (HBR.out.trans (Below.mono HB5.out HBR.out.size)).setCell (by simp; omega) _
              · simp; omega
              · intro j hj
                by_cases e : j = k
                · subst e
                  exact refB_mk HOK.out (.inr (by rw [← HNV.out]; exact HIN.out))
                · exact HRF.out j (by omega)
            case measure => simp [intOf]; omega
          · have CIB : Hid (∀ W, Calls Tryz.prog 126 #[.int .i64 nv] W fun e w' => e = .returned (.bool false) ∧ w' = W) := fun W => by
              have h := inBounds_any nv W
              rwa [show inB nv (-1099511627776) 1099511627776 = false by unfold inB; exact decide_eq_false hin] at h
            have HF12 : Hid (grF cnt knd num op p m part name = 12) := if_pos (List.any_eq_true.2 ⟨k, List.mem_range.2 hkm, refB_yes2 HFB.out (by rw [← HNV.out]; exact hin)⟩)
            clear hin
            have hbi : w1.heap.size + 1 + 1 < blk i := (HROW.out.2.1 i HHI.out.1).2.1
            have hne1 : ¬ blk i = w.heap.size + 1 := by omega
            have hne2 : ¬ w.heap.size + 1 = blk i := by omega
            go_wp2_with (first
              | (go_at_call 123; refine (CC.out _).mono ?_; rintro e w5 ⟨rfl, hb5⟩; have HB5 : Hid (Chain wr w5) := hb5; have y0 := (Below.cell hb5 (p := ⟨ub, uo + P * 3, none⟩) hub).trans b0; have y1 := (Below.cell hb5 (p := ⟨ub, uo + P * 3 + 1, none⟩) hub).trans b1; have y2 := (Below.cell hb5 (p := ⟨ub, uo + P * 3 + 2, none⟩) hub).trans b2; have y3 := (Below.cell hb5 (p := ⟨w1.heap.size + 1, 1, none⟩) (by show w1.heap.size + 1 < _; omega)).trans t1; have y4 := (Below.cell hb5 (p := ⟨g, i, none⟩) hg1).trans hg2; have y5 := (Below.cell hb5 (p := ⟨blk i, 4, none⟩) hg3).trans hg4; have y6 := (Below.frozen hb5 (p := ⟨blk i, 4, none⟩) hg3).trans hg5; have y7 := HLK.out w5 (Below.block hb5 _ hTz); have z5 : wr.heap.size ≤ w5.heap.size := Below.size hb5; have z6 : ub < w5.heap.size := Nat.lt_of_lt_of_le hub z5; have z7 : blk i < w5.heap.size := Nat.lt_of_lt_of_le hg3 z5; have z8 : g < w5.heap.size := Nat.lt_of_lt_of_le hg1 z5; have z9 : w1.heap.size + 1 < w5.heap.size := (by omega); clear x0 x1 x2 x3 x4 x5; obtain ⟨x0, x1, x2, x3, x4, x5, x10⟩ := box2r (HB4.out.trans (Below.mono hb5 x8)); clear hb5 b0 b1 b2 t1 hg2 hg4 hg5 a0 a1 a2 e1 CC)
              | (go_at_call 125; refine (CWI.out _).mono ?_; rintro e w6 ⟨rfl, hw6⟩; obtain rfl := hw6.symm)
              | (go_at_call 126; refine (CIB.out _).mono ?_; rintro e w6 ⟨rfl, hw6⟩; obtain rfl := hw6.symm))
            refine bodyPost_ret (v := .tuple #[.agg #[.slice none 0 0, .slice none 0 0], .int .i64 12]) (by simp [results, Tryz.results94, go_sem, x2, x3]) rfl ⟨_, _, by rw [HF12.out], ?_, ?_⟩
            · rw [HF12.out]; exact FreshRel.nil _ _ _ _
            · exact (((HW.out (HB4.out.trans (Below.mono HB5.out x8))).setCell (by simp; omega) _).setCell (by simp <;> omega) _).setCell (by simp <;> omega) _
        · -- a new part
          have hKk : prtK p m (prtN p k) = p k := prtK_at hkm hfb
          have hno := prt_new (m := m) hkm hfb
          have HLK : Hid (∀ W : World, W.heap[w1.heap.size + 1 + 1]? = wr.heap[w1.heap.size + 1 + 1]? → Sem.run Tryz.prog (Instr.lookup 141 (Value.map (some (w1.heap.size + 1 + 1))) (Value.agg #[Value.int IntKind.i64 (p k).kind, Value.int IntKind.i64 (p k).n, Value.string (p k).s]) true) W = Result.ok (Value.tuple #[Value.int IntKind.i64 0, Value.bool false]) W) := fun W hW => (HPM.out.keep hW).look_no hfit hno
          have HPUT : Hid (∀ W : World, W.heap[w1.heap.size + 1 + 1]? = wr.heap[w1.heap.size + 1 + 1]? → ∃ w', Sem.run Tryz.prog (Instr.mapUpdate 141 (Value.map (some (w1.heap.size + 1 + 1))) (Value.agg #[Value.int IntKind.i64 (p k).kind, Value.int IntKind.i64 (p k).n, Value.string (p k).s]) (Value.int IntKind.i64 (prtN p k : Int))) W = Result.ok () w' ∧ PMap w' (w1.heap.size + 1 + 1) (prtN p k + 1) (prtK p m) ∧ TurnedP W w' (w1.heap.size + 1 + 1)) := fun W hW => by
            have h := (HPM.out.keep hW).put (by rw [hKk]; exact hfit) (by rw [hKk]; exact hno)
            rw [hKk] at h
            exact h
          have HFB : Hid (fstB p k = true) := hfb
          have HOK : Hid (cnt = true ∨ knd k = 2) := hok
          have HKK : Hid (prtK p m (prtN p k) = p k) := hKk
          have HNO : Hid (∀ j, j < prtN p k → prtK p m j ≠ p k) := hno
          clear hKk hno hfb hok
          go_upto_region 22 with (first
              | (go_at_call 123; refine (CC.out _).mono ?_; rintro e w5 ⟨rfl, hb5⟩; have HB5 : Hid (Chain wr w5) := hb5; have y0 := (Below.cell hb5 (p := ⟨ub, uo + P * 3, none⟩) hub).trans b0; have y1 := (Below.cell hb5 (p := ⟨ub, uo + P * 3 + 1, none⟩) hub).trans b1; have y2 := (Below.cell hb5 (p := ⟨ub, uo + P * 3 + 2, none⟩) hub).trans b2; have y3 := (Below.cell hb5 (p := ⟨w1.heap.size + 1, 1, none⟩) (by show w1.heap.size + 1 < _; omega)).trans t1; have y7 := HLK.out w5 (Below.block hb5 _ hTz); have z5 : wr.heap.size ≤ w5.heap.size := Below.size hb5; have z6 : ub < w5.heap.size := Nat.lt_of_lt_of_le hub z5; have z9 : w1.heap.size + 1 < w5.heap.size := (by omega); clear hb5 b0 b1 b2 t1 a0 a1 a2 e1 CC))
          obtain ⟨w6, hup, hpm6, ht6⟩ := HPUT.out w5.drew (Below.block HB5.out _ hTz)
          have hbk : ∀ c, c ≠ w1.heap.size + 1 + 1 → w6.heap[c]? = w5.heap[c]? := ht6.2.1
          have HBK : Hid (∀ c, c ≠ w1.heap.size + 1 + 1 → w6.heap[c]? = w5.heap[c]?) := hbk
          have HS6 : Hid (w6.heap.size = w5.heap.size ∧ w6.os = w5.os ∧ w6.tape = w5.drew.tape ∧ w6.output = w5.output) := ⟨ht6.1, ht6.2.2.1, ht6.2.2.2.1, ht6.2.2.2.2⟩
          have HB56 : Hid (Below w1.heap.size w5 w6) := ((Below.refl _ _).drew).trans (ht6.below.mono (by omega))
          have HPM6 : Hid (PMap w6 (w1.heap.size + 1 + 1) (prtN p k + 1) (prtK p m)) := hpm6
          have q0 := (World.cell?_of_block (a := ⟨ub, uo + P * 3, none⟩) (hbk ub (by omega))).trans y0
          have q1 := (World.cell?_of_block (a := ⟨ub, uo + P * 3 + 1, none⟩) (hbk ub (by omega))).trans y1
          have q2 := (World.cell?_of_block (a := ⟨ub, uo + P * 3 + 2, none⟩) (hbk ub (by omega))).trans y2
          have q3 := (World.cell?_of_block (a := ⟨w1.heap.size + 1, 1, none⟩) (hbk (w1.heap.size + 1) (by omega))).trans y3
          have z61 : ub < w6.heap.size := by rw [ht6.1]; exact z6
          have z62 : w1.heap.size + 1 < w6.heap.size := by rw [ht6.1]; exact z9
          have CNM : Hid (∀ W, Calls Tryz.prog 124 #[.int .i64 (num k)] W fun e w' => ∃ v, e = .returned v ∧ (v = .agg #[.int .i64 2, .int .i64 (num k), .string ⟨#[]⟩] ∧ Chain W w')) := fun W => (number_isG (num k) W).mono fun e w' ⟨h1, h2⟩ => ⟨_, h1, rfl, h2⟩
          have HROW6 : Hid (GrpRows w6 (w1.heap.size + 1 + 1) (.slice ra (prtN p k) rc) (prtN p k) (grR num op p m (k + 1)) blk) := ((HROW.out.chain HB5.out).keep (fun b h1 h2 => hbk b (by omega))).congr (fun j hj => grR_new (fun e => HNO.out j hj e.symm))
          have HTW : Hid (cellsTwo ((grR num op p m (k + 1) (prtN p k)).at_ 0) ((grR num op p m (k + 1) (prtN p k)).at_ 1) = #[.int .i64 (p k).kind, .int .i64 (p k).n, .string (p k).s, .int .i64 2, .int .i64 (num k), .string ⟨#[]⟩]) := by
            have h : cellsTwo (prtK p m (prtN p k)) ⟨2, agV num op p (prtK p m (prtN p k)) (k + 1), ⟨#[]⟩⟩ = #[.int .i64 (p k).kind, .int .i64 (p k).n, .string (p k).s, .int .i64 2, .int .i64 (num k), .string ⟨#[]⟩] := by
              rw [HKK.out, agV_first HFB.out]
              rfl
            exact h
          have hg24 : (prtN p k + 1) * 24 ≤ 140737488355328 := by omega
          clear hbk ht6 hpm6
          go_region_law (fail)
          all_goals refine ?merged
          clear hup y0 y1 y2 y3 y7
          go_upto_region 23 with fail
          focus
            go_region_law (first
              | (refine step_call rfl 124 #[.int .i64 (num k)] (by simp [go_sem]) (fun v w' => v = .agg #[.int .i64 2, .int .i64 (num k), .string ⟨#[]⟩] ∧ Chain _ w') (CNM.out _) ?_; rintro v9 w9 ⟨rfl, hb9⟩; have hc9 : Chain w6 w9 := Chain.trans (by (repeat (first | exact Chain.refl _ | refine Chain.drew ?_))) hb9; have HB9 : Hid (Chain w6 w9) := hc9; have y0 := (Below.cell hc9 (p := ⟨ub, uo + P * 3, none⟩) z61).trans q0; have y1 := (Below.cell hc9 (p := ⟨ub, uo + P * 3 + 1, none⟩) z61).trans q1; have y2 := (Below.cell hc9 (p := ⟨ub, uo + P * 3 + 2, none⟩) z61).trans q2; have y3 := (Below.cell hc9 (p := ⟨w1.heap.size + 1, 1, none⟩) z62).trans q3; have z71 : ub < w9.heap.size := Nat.lt_of_lt_of_le z61 (Below.size hc9); have z72 : w1.heap.size + 1 < w9.heap.size := Nat.lt_of_lt_of_le z62 (Below.size hc9); have z73 : w1.heap.size + 1 + 1 < w9.heap.size := Nat.lt_of_lt_of_le HPM6.out.lt (Below.size hc9); have z74 : w1.heap.size < w9.heap.size := Nat.lt_of_succ_lt z72; have z75 : w1.heap.size + 1 < w9.heap.size + 1 := Nat.lt_succ_of_lt z72; have HR9 : Hid (GrpRows w9 (w1.heap.size + 1 + 1) (.slice ra (prtN p k) rc) (prtN p k) (grR num op p m (k + 1)) blk) := HROW6.out.chain hc9; clear hb9 hc9 CNM)
              | (refine step_push_grp rfl (.tmp 103) (.tmp 111) rfl (w1.heap.size + 1 + 1) (prtN p k) (.slice ra (prtN p k) rc) (grR num op p m (k + 1)) blk (by simp [Act.eval]) (by exact ((HR9.out.alloc _).alloc _).heap rfl) (by simp; omega) ⟨w9.heap.size + 1, 0, none⟩ 1 w9.heap.size (by simp [Act.eval]) (by simp) (by rw [HTW.out]; exact heap_two' _ _ rfl) rfl z73 (fun e => by have := (HR9.out.lt _ e).2; omega) (fun j hj e => by have := (Array.getElem?_eq_some_iff.1 (HR9.out.2.1 j hj).2.2.2).1; omega) hg24 ?_; intro v8 w8 hr8 hsh8 hg8 hat8; obtain ⟨va8, vc8, rfl⟩ := hsh8; have hbg : Below (w1.heap.size + 1 + 1 + 1) w9 w8 := grp_put hg8 (fun b e => (HR9.out.lt b e).1) z73; have HB8 : Hid (Below (w1.heap.size + 1 + 1 + 1) w9 w8) := hbg; have s1 := (Below.cell hbg (p := ⟨w1.heap.size + 1, 1, none⟩) (by show w1.heap.size + 1 < _; omega)).trans y3; have sf := (Below.frozen hbg (p := ⟨w1.heap.size + 1, 1, none⟩) (by show w1.heap.size + 1 < _; omega)).trans ((Below.frozen HB9.out (p := ⟨w1.heap.size + 1, 1, none⟩) z62).trans ((World.frozen?_of_block (a := ⟨w1.heap.size + 1, 1, none⟩) (HBK.out (w1.heap.size + 1) (by omega))).trans ((Below.frozen HB5.out (p := ⟨w1.heap.size + 1, 1, none⟩) (by show w1.heap.size + 1 < _; omega)).trans tf))); have s0 := (Below.cell hbg (p := ⟨w1.heap.size + 1, 0, none⟩) (by show w1.heap.size + 1 < _; omega)).trans ((Below.cell HB9.out (p := ⟨w1.heap.size + 1, 0, none⟩) z62).trans ((World.cell?_of_block (a := ⟨w1.heap.size + 1, 0, none⟩) (HBK.out (w1.heap.size + 1) (by omega))).trans ((Below.cell HB5.out (p := ⟨w1.heap.size + 1, 0, none⟩) (by show w1.heap.size + 1 < _; omega)).trans t0))); have s2 : w1.heap.size + 1 < w8.heap.size := Nat.lt_of_lt_of_le z72 hbg.size; have HR8 : Hid (∃ blk', GrpRows w8 (w1.heap.size + 1 + 1) (.slice va8 (prtN p k + 1) vc8) (prtN p k + 1) (grR num op p m (k + 1)) blk') := ⟨_, hr8⟩; have HB68 : Hid (Below (w1.heap.size + 1 + 1 + 1) w6 w8) := (Below.mono HB9.out HPM6.out.lt).trans hbg; clear hr8 hg8 hat8 hbg y0 y1 y2 y3 z71 z72 z73 z74 z75 HR9 HB9 HB8))
            all_goals
              revert HR8 HB68 s0 s1 sf s2
              revert w8 va8 vc8 w9
              refine ?merged2
            intro w9 w8 va8 vc8 s1 sf s0 s2 HR8 HB68
            go_wp2_with fail
            go_roundw
            case rel =>
              obtain ⟨blk', hr8⟩ := HR8.out
              have hN : prtN p (k + 1) = prtN p k + 1 := prtN_yes HFB.out
              have hz8 := HB68.out.size
              have hz6 := HS6.out.1
              have HZ : w1.heap.size + 1 + 1 < w8.heap.size := Nat.lt_of_lt_of_le HPM6.out.lt hz8
              refine ⟨k + 1, .slice va8 (prtN p k + 1) vc8, blk', by omega, by go_num, ?_, ?_, ?_, ?_, ?_, ?_, ?_, ?_, ?_⟩
              · simp [go_sem, s0]
              · simp [go_sem, s1]
              · simp [go_sem, sf]
              · rw [hN]
                exact hr8.keep (fun b h1 h2 => Below.heap_setCell _ _ _ _ (by simp; omega))
              · rw [hN]
                exact HPM6.out.keep ((Below.heap_setCell _ _ _ _ (by simp)).trans (HB68.out.block _ (by omega)))
              · refine HKEPT.out.keep (by simp; omega) (fun b h1 h2 h3 h4 => ⟨(Below.heap_setCell _ _ _ _ (by simp; omega)).trans ((HB68.out.block b (by omega)).trans ((HBK.out b (by omega)).trans (Below.block HB5.out b h3))), fun e => ?_⟩)
                have := (hr8.lt b e).1
                omega
              · exact (((HBR.out.trans (Below.mono HB5.out HBR.out.size)).trans HB56.out).trans (HB68.out.mono (by omega))).setCell (by simp) _
              · simp; omega
              · intro j hj
                by_cases e : j = k
                · subst e
                  exact refB_mk HOK.out (.inl HFB.out)
                · exact HRF.out j (by omega)
            case measure => simp [intOf]; omega
      · -- an item that is no number
        have hc0 : cnt = false := by
          cases h : cnt
          · rfl
          · exact absurd (.inl h) hok
        have hk2 : ¬ knd k = 2 := fun e => hok (.inr e)
        have HF12 : Hid (grF cnt knd num op p m part name = 12) := if_pos (List.any_eq_true.2 ⟨k, List.mem_range.2 hkm, refB_yes1 hc0 hk2⟩)
        have CC : Hid (∀ W, Calls Tryz.prog 123 #[.string which, .agg #[.int .i64 ((R k).at_ Q).kind, .int .i64 ((R k).at_ Q).n, .string ((R k).at_ Q).s]] W fun e w' => e = .returned (.tuple #[.int .i64 0, .int .i64 12]) ∧ Chain W w') := fun W => counts_bad which hG (fun e => by rw [hcnt.2 e] at hc0; cases hc0) ((R k).at_ Q) (by rw [← HKR.out k]; exact hk2) W
        generalize (R k).at_ Q = xq at *
        clear hc0 hk2 hok
        go_wp2_with (first
          | (go_at_call 123; refine (CC.out _).mono ?_; rintro e w5 ⟨rfl, hb5⟩; have HB5 : Hid (Chain wr w5) := hb5; clear x0 x1 x2 x3 x4 x5; obtain ⟨x0, x1, x2, x3, x4, x5, x10⟩ := box2r (HB4.out.trans (Below.mono hb5 x8)); clear hb5))
        refine bodyPost_ret (v := .tuple #[.agg #[.slice none 0 0, .slice none 0 0], .int .i64 12]) (by simp [results, Tryz.results94, go_sem, x2, x3]) rfl ⟨_, _, by rw [HF12.out], ?_, ?_⟩
        · rw [HF12.out]; exact FreshRel.nil _ _ _ _
        · exact ((HW.out (HB4.out.trans (Below.mono HB5.out x8))).setCell (by simp <;> omega) _).setCell (by simp <;> omega) _
    · have e : k = m := by omega
      subst e
      have HFM : Hid (grF cnt knd num op p k part name = madeF (grC part name) 2 (prtN p k)) := by
        have h : grF cnt knd num op p k part name = madeF (grC part name) 2 (prtN p k) := if_neg (fun h => by
          obtain ⟨i, h1, h2⟩ := List.any_eq_true.1 h
          rw [HRF.out i (List.mem_range.1 h1)] at h2
          cases h2)
        exact h
      have CM : Hid (Calls Tryz.prog 119 #[.slice (some ⟨w1.heap.size, 0, none⟩) 2 2, .int .i64 (prtN p k : Int)] wr fun e w' => e = .returned (.int .i64 (grF cnt knd num op p k part name)) ∧ w' = wr) := by
        rw [HFM.out]
        exact checkMade_is _ 2 (prtN p k) (grC part name) wr HKEPT.out.is (fun i hi => by unfold grC; split <;> assumption) (by unfold maxLen; omega)
      obtain ⟨F, hF⟩ : ∃ F, F = grF cnt knd num op p k part name := ⟨_, rfl⟩
      rw [← hF] at CM
      have HFE : Hid (grF cnt knd num op p k part name = F) := hF.symm
      clear hF
      have hTz2 : w1.heap.size + 1 < wr.heap.size := by omega
      by_cases h0 : F = 0
      · have HF0 : Hid (F = 0) := h0
        rw [h0] at CM
        clear h0
        go_wp2_with (first
          | (go_at_call 119; refine CM.out.mono ?_; rintro e w6 ⟨rfl, hw6⟩; obtain rfl := hw6.symm))
        refine bodyPost_ret (v := .tuple #[.agg #[.slice (some ⟨w1.heap.size, 0, none⟩) 2 2, .slice ra (prtN p k) rc], .int .i64 0]) (by simp [results, Tryz.results94, go_sem, x2, x3]) rfl ⟨_, _, by rw [HFE.out, HF0.out], ?_, ((HW.out HB4.out).setCell (by simp <;> omega) _).setCell (by simp <;> omega) _⟩
        rw [HFE.out, HF0.out]
        exact FreshRel.of ((HKEPT.out.setCell (.inr (by simp; omega)) _).setCell (.inr (by simp; omega)) _) (((HROW.out.two (B := w1.heap.size) (T := w1.heap.size + 1) (by omega) (by omega)).setCell (by omega) (.inr (by simp; omega)) _).setCell (by omega) (.inr (by simp; omega)) _) (by omega) (by omega)
      · have HFN : Hid (¬ F = 0) := h0
        have hF1 : (F != 0) = true := by simpa using h0
        clear h0
        go_wp2_with (first
          | (go_at_call 119; refine CM.out.mono ?_; rintro e w6 ⟨rfl, hw6⟩; obtain rfl := hw6.symm))
        refine bodyPost_ret (v := .tuple #[.agg #[.slice none 0 0, .slice none 0 0], .int .i64 F]) (by simp [results, Tryz.results94, go_sem, x2, x3]) rfl ⟨_, _, by rw [HFE.out], ?_, ((HW.out HB4.out).setCell (by simp <;> omega) _).setCell (by simp <;> omega) _⟩
        rw [HFE.out, okN, if_neg HFN.out, okN, if_neg HFN.out]; exact FreshRel.nil _ _ _ _
end Go.Proofs.YtkcejelmohameaaGreatDoor
