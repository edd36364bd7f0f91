/-
  PLANS THAT COME IN, opened: what they read as gives them, and where they lie.
-/
import Derived.Test.YtkcejelmohameaaGreatDoorRcOp
import Derived.Test.YtkcejelmohameaaGreatDoorKpOrd
import Derived.Test.YtkcejelmohameaaGreatDoorUnroll
import Derived.Deep.QuietTactic
import Derived.BigQuiet
import Derived.Deep.RegionHeld3
import Derived.Laws.EntriesVeiled
import Derived.Test.YtkcejelmohameaaGreatDoorRlSameI
import Derived.Test.YtkcejelmohameaaGreatDoorRlCat
import Derived.Test.YtkcejelmohameaaGreatDoorRlOpen
import Derived.Deep.Slices
set_option linter.unusedVariables false
namespace Go.Proofs.YtkcejelmohameaaGreatDoor
set_option maxRecDepth 100000
open Go.RowKit Go.WideShapes

/-- an input without rows lies there -/
structure InOk (w : World) (ib s : Nat) (a : Txts) : Prop where
  lt : ib < w.heap.size
  ex : ∃ ca ck qa qk, w.cell? ⟨ib, s, none⟩ = some (.slice ca a.len ck) ∧ w.cell? ⟨ib, s + 1, none⟩ = some (.slice qa 0 qk) ∧ StrsIs w (.slice ca a.len ck) a.len a.at_ ∧ Row0 (.slice qa 0 qk)
  may : colsF a.at_ a.len = 0
  fine : StrsFine a.len a.at_
theorem InOk.below {w w' : World} {ib s : Nat} {a : Txts} (h : InOk w ib s a) (hb : Below w.heap.size w w') : InOk w' ib s a := by
  obtain ⟨h0, ⟨ca, ck, qa, qk, h1, h2, h3, h4⟩, h5, h6⟩ := h
  exact ⟨Nat.lt_of_lt_of_le h0 hb.size, ⟨ca, ck, qa, qk, (hb.cell (p := ⟨ib, s, none⟩) h0).trans h1, (hb.cell (p := ⟨ib, s + 1, none⟩) h0).trans h2, h3.below hb, h4⟩, h5, h6⟩
/-- the inputs of an op lie there -/
def InsOk (w : World) (iv : Value) (n : Nat) (a b : Txts) : Prop :=
  (1 ≤ n → ∃ ib, iv = .slice (some ⟨ib, 0, none⟩) n n ∧ InOk w ib 0 a ∧ (2 ≤ n → InOk w ib 2 b)) ∧ ∃ x y z, iv = .slice x y z
/-- columns that were told lie in a list of relations -/
def Told (w : World) (tb i : Nat) (K : Nat → Txts) : Prop := ∀ j, j < i → ∃ ca ck qa qk, w.cell? ⟨tb, j * 2, none⟩ = some (.slice ca (K j).len ck) ∧ w.cell? ⟨tb, j * 2 + 1, none⟩ = some (.slice qa 0 qk) ∧ StrsIs w (.slice ca (K j).len ck) (K j).len (K j).at_ ∧ Row0 (.slice qa 0 qk) ∧ colsF (K j).at_ (K j).len = 0 ∧ StrsFine (K j).len (K j).at_
set_option maxHeartbeats 3200000 in
theorem inputsOf_0 (pb po tb N i : Nat) (o : Opm) (K : Nat → Txts) (w : World) (h : OpAt w pb po o) (hins : insB o i = true) (hiN : i ≤ N) (hN : N ≤ 200000) (htb : tb < w.heap.size) (hT : Told w tb i K) (hn : o.nin = 0) : Calls Tryz.prog 10 #[.pointer (some ⟨pb, po, none⟩), .slice (some ⟨tb, 0, none⟩) N N] w fun e w' => ∃ iv, e = .returned iv ∧ InsOk w' iv o.nin (inT o K 0) (inT o K 1) ∧ Below w.heap.size w w' := by
  obtain ⟨ia, icap, d1, hz⟩ := h.ins
  have hpb := h.lt
  obtain ⟨_, _, e0, z1, z2, z3⟩ := hz
  cases e0
  unfold maxLen at z2
  have hat : ∀ j, j < o.nin → 0 ≤ o.ins j ∧ o.ins j < i := fun j hj => of_decide_eq_true (List.all_eq_true.1 hins j (List.mem_range.2 hj))
  have hmk := mk_rels0
  rw [hn] at d1 z1 z3 hat ⊢
  clear h hins hT hat z3 hn 
  go_enter Tryz.func10, Tryz.ntmps10
  go_wp2
  refine LoopN.wp 1 (LoopN.next ?_)
  go_wp2
  go_ret
  exact ⟨_, rfl, ⟨fun h => absurd h (by decide), _, _, _, rfl⟩, (Below.refl _ _).alloc (Nat.le_refl _) _⟩
set_option maxHeartbeats 3200000 in
theorem inputsOf_1 (pb po tb N i : Nat) (o : Opm) (K : Nat → Txts) (w : World) (h : OpAt w pb po o) (hins : insB o i = true) (hiN : i ≤ N) (hN : N ≤ 200000) (htb : tb < w.heap.size) (hT : Told w tb i K) (hn : o.nin = 1) : Calls Tryz.prog 10 #[.pointer (some ⟨pb, po, none⟩), .slice (some ⟨tb, 0, none⟩) N N] w fun e w' => ∃ iv, e = .returned iv ∧ InsOk w' iv o.nin (inT o K 0) (inT o K 1) ∧ Below w.heap.size w w' := by
  obtain ⟨ia, icap, d1, hz⟩ := h.ins
  have hpb := h.lt
  obtain ⟨_, _, e0, z1, z2, z3⟩ := hz
  cases e0
  unfold maxLen at z2
  have hat : ∀ j, j < o.nin → 0 ≤ o.ins j ∧ o.ins j < i := fun j hj => of_decide_eq_true (List.all_eq_true.1 hins j (List.mem_range.2 hj))
  have hmk := mk_rels1
  rw [hn] at d1 z1 z3 hat ⊢
  obtain ⟨ib, io, rfl, hib, hcell⟩ := z3 (by omega)
  obtain ⟨n0, hn0⟩ : ∃ m : Nat, o.ins 0 = (m : Int) := ⟨(o.ins 0).toNat, by have := hat 0 (by omega); omega⟩
  have hl0 : n0 < i := by have := hat 0 (by omega); omega
  have c0 : w.cell? ⟨ib, io, none⟩ = some (.int .i64 (n0 : Int)) := by rw [← hn0]; exact hcell 0 (by omega)
  obtain ⟨ca0, ck0, qa0, qk0, x0, y0, s0, r0, m0, f0⟩ := hT n0 hl0
  have hlt0 : (n0 : Int) < (N : Int) := by omega
  have HT0 : Hid (inT o K 0 = K n0) := by
    have e : inT o K 0 = K (o.ins 0).toNat := by unfold inT; rw [hn]; rfl
    show inT o K 0 = K n0
    rw [e, hn0]; rfl
  have HS0 := hidK s0
  have HR0 := hidK r0
  have HM0 := hidK m0
  have HF0 := hidK f0
  obtain ⟨L0, hL0⟩ : ∃ L, L = (K n0).len := ⟨_, rfl⟩
  have HL0 := hidK hL0
  rw [← hL0] at x0
  clear h hins hT hat z3 hn hcell hn0 hl0 s0 r0 m0 f0 hL0
  go_enter Tryz.func10, Tryz.ntmps10
  go_wp2
  refine LoopN.wp 2 (LoopN.next ?_)
  go_wp2
  refine LoopN.next ?_
  go_wp2
  go_ret
  obtain ⟨W, hW⟩ : ∃ W, W = w.alloc (.cells #[.slice ca0 L0 ck0, .slice qa0 0 qk0] 40) := ⟨_, rfl⟩
  have hB : Below w.heap.size w W := by rw [hW]; exact (Below.refl _ _).alloc (Nat.le_refl _) _
  have hH : W.heap[w.heap.size]? = some (.cells #[.slice ca0 L0 ck0, .slice qa0 0 qk0] 40) := by rw [hW]; exact kNew rfl
  rw [← hW]
  refine ⟨_, rfl, ⟨fun _ => ⟨w.heap.size, rfl, ?_, ?_⟩, _, _, _, rfl⟩, hB⟩
  · skip
    rw [HT0.out]
    exact ⟨kLt hH, ⟨ca0, ck0, qa0, qk0, by rw [← HL0.out]; exact (kCell hH (j := 0) (by simp)).1, (kCell hH (j := 1) (by simp)).1, by have := HS0.out.below hB; exact this, HR0.out⟩, HM0.out, HF0.out⟩
  · exact fun h => absurd h (by decide)
set_option maxHeartbeats 3200000 in
theorem inputsOf_2 (pb po tb N i : Nat) (o : Opm) (K : Nat → Txts) (w : World) (h : OpAt w pb po o) (hins : insB o i = true) (hiN : i ≤ N) (hN : N ≤ 200000) (htb : tb < w.heap.size) (hT : Told w tb i K) (hn : o.nin = 2) : Calls Tryz.prog 10 #[.pointer (some ⟨pb, po, none⟩), .slice (some ⟨tb, 0, none⟩) N N] w fun e w' => ∃ iv, e = .returned iv ∧ InsOk w' iv o.nin (inT o K 0) (inT o K 1) ∧ Below w.heap.size w w' := by
  obtain ⟨ia, icap, d1, hz⟩ := h.ins
  have hpb := h.lt
  obtain ⟨_, _, e0, z1, z2, z3⟩ := hz
  cases e0
  unfold maxLen at z2
  have hat : ∀ j, j < o.nin → 0 ≤ o.ins j ∧ o.ins j < i := fun j hj => of_decide_eq_true (List.all_eq_true.1 hins j (List.mem_range.2 hj))
  have hmk := mk_rels2
  rw [hn] at d1 z1 z3 hat ⊢
  obtain ⟨ib, io, rfl, hib, hcell⟩ := z3 (by omega)
  obtain ⟨n0, hn0⟩ : ∃ m : Nat, o.ins 0 = (m : Int) := ⟨(o.ins 0).toNat, by have := hat 0 (by omega); omega⟩
  have hl0 : n0 < i := by have := hat 0 (by omega); omega
  have c0 : w.cell? ⟨ib, io, none⟩ = some (.int .i64 (n0 : Int)) := by rw [← hn0]; exact hcell 0 (by omega)
  obtain ⟨ca0, ck0, qa0, qk0, x0, y0, s0, r0, m0, f0⟩ := hT n0 hl0
  have hlt0 : (n0 : Int) < (N : Int) := by omega
  have HT0 : Hid (inT o K 0 = K n0) := by
    have e : inT o K 0 = K (o.ins 0).toNat := by unfold inT; rw [hn]; rfl
    show inT o K 0 = K n0
    rw [e, hn0]; rfl
  have HS0 := hidK s0
  have HR0 := hidK r0
  have HM0 := hidK m0
  have HF0 := hidK f0
  obtain ⟨L0, hL0⟩ : ∃ L, L = (K n0).len := ⟨_, rfl⟩
  have HL0 := hidK hL0
  rw [← hL0] at x0
  obtain ⟨n1, hn1⟩ : ∃ m : Nat, o.ins 1 = (m : Int) := ⟨(o.ins 1).toNat, by have := hat 1 (by omega); omega⟩
  have hl1 : n1 < i := by have := hat 1 (by omega); omega
  have c1 : w.cell? ⟨ib, io + 1, none⟩ = some (.int .i64 (n1 : Int)) := by rw [← hn1]; exact hcell 1 (by omega)
  obtain ⟨ca1, ck1, qa1, qk1, x1, y1, s1, r1, m1, f1⟩ := hT n1 hl1
  have hlt1 : (n1 : Int) < (N : Int) := by omega
  have HT1 : Hid (inT o K 1 = K n1) := by
    have e : inT o K 1 = K (o.ins 1).toNat := by unfold inT; rw [hn]; rfl
    show inT o K 1 = K n1
    rw [e, hn1]; rfl
  have HS1 := hidK s1
  have HR1 := hidK r1
  have HM1 := hidK m1
  have HF1 := hidK f1
  obtain ⟨L1, hL1⟩ : ∃ L, L = (K n1).len := ⟨_, rfl⟩
  have HL1 := hidK hL1
  rw [← hL1] at x1
  clear h hins hT hat z3 hn hcell hn0 hl0 s0 r0 m0 f0 hL0 hn1 hl1 s1 r1 m1 f1 hL1
  go_enter Tryz.func10, Tryz.ntmps10
  go_wp2
  refine LoopN.wp 3 (LoopN.next ?_)
  go_wp2
  refine LoopN.next ?_
  go_wp2
  refine LoopN.next ?_
  go_wp2
  go_ret
  obtain ⟨W, hW⟩ : ∃ W, W = w.alloc (.cells #[.slice ca0 L0 ck0, .slice qa0 0 qk0, .slice ca1 L1 ck1, .slice qa1 0 qk1] 40) := ⟨_, rfl⟩
  have hB : Below w.heap.size w W := by rw [hW]; exact (Below.refl _ _).alloc (Nat.le_refl _) _
  have hH : W.heap[w.heap.size]? = some (.cells #[.slice ca0 L0 ck0, .slice qa0 0 qk0, .slice ca1 L1 ck1, .slice qa1 0 qk1] 40) := by rw [hW]; exact kNew rfl
  rw [← hW]
  refine ⟨_, rfl, ⟨fun _ => ⟨w.heap.size, rfl, ?_, ?_⟩, _, _, _, rfl⟩, hB⟩
  · skip
    rw [HT0.out]
    exact ⟨kLt hH, ⟨ca0, ck0, qa0, qk0, by rw [← HL0.out]; exact (kCell hH (j := 0) (by simp)).1, (kCell hH (j := 1) (by simp)).1, by have := HS0.out.below hB; exact this, HR0.out⟩, HM0.out, HF0.out⟩
  · intro _
    rw [HT1.out]
    exact ⟨kLt hH, ⟨ca1, ck1, qa1, qk1, by rw [← HL1.out]; exact (kCell hH (j := 2) (by simp)).1, (kCell hH (j := 3) (by simp)).1, by have := HS1.out.below hB; exact this, HR1.out⟩, HM1.out, HF1.out⟩
theorem inputsOf_is (pb po tb N i : Nat) (o : Opm) (K : Nat → Txts) (w : World) (h : OpAt w pb po o) (hins : insB o i = true) (hiN : i ≤ N) (hN : N ≤ 200000) (htb : tb < w.heap.size) (hT : Told w tb i K) (hn : o.nin ≤ 2) : Calls Tryz.prog 10 #[.pointer (some ⟨pb, po, none⟩), .slice (some ⟨tb, 0, none⟩) N N] w fun e w' => ∃ iv, e = .returned iv ∧ InsOk w' iv o.nin (inT o K 0) (inT o K 1) ∧ Below w.heap.size w w' := by
  have hc : o.nin = 0 ∨ o.nin = 1 ∨ o.nin = 2 := by omega
  rcases hc with hc | hc | hc
  · exact inputsOf_0 pb po tb N i o K w h hins hiN hN htb hT hc
  · exact inputsOf_1 pb po tb N i o K w h hins hiN hN htb hT hc
  · exact inputsOf_2 pb po tb N i o K w h hins hiN hN htb hT hc
end Go.Proofs.YtkcejelmohameaaGreatDoor
set_option linter.unusedVariables false
namespace Go.Proofs.YtkcejelmohameaaGreatDoor
set_option maxRecDepth 100000
open Go.RowKit Go.WideShapes

set_option maxHeartbeats 1600000 in
theorem hasTxt_is (v : Value) (n : Nat) (C : Nat → ByteArray) (s : ByteArray) (w : World) (hv : StrsIs w v n C) :
    Calls Tryz.prog 73 #[v, .string s] w fun e w' => e = .returned (.bool (decide (0 ≤ colI C n s))) ∧ w' = w := by
  obtain ⟨a, cap, rfl, h1, h2, _, h3⟩ := hv
  have H3 := hidK h3
  unfold maxLen at h2
  obtain ⟨b, hb⟩ : ∃ b, b = decide (0 ≤ colI C n s) := ⟨_, rfl⟩
  rw [← hb]
  have HB := hidK hb
  clear h3 hb
  go_enter Tryz.func73, Tryz.ntmps73
  go_wp2
  go_loop [5] (fun i => ∃ k : Nat, k ≤ n ∧ i = .int .i64 (k : Int) ∧ ∀ t, t < k → ((C t).toList == s.toList) = false) (fun i => n - (intOf i).toNat)
  case atStart => exact ⟨0, Nat.zero_le _, rfl, fun t ht => absurd ht (Nat.not_lt_zero t)⟩
  case round =>
    obtain ⟨k, hk, rfl, hall⟩ := hrel
    have HALL := hidK hall
    clear hall
    by_cases hlt : k < n
    · obtain ⟨bb, off, rfl, hbl, hat⟩ := H3.out (by omega)
      have e1 := hat k hlt
      have hki : (k : Int) < (n : Int) := by omega
      clear hat
      cases he : ((C k).toList == s.toList) with
      | true =>
        have HX : Hid (b = true) := by rw [HB.out, colI_hit hlt he HALL.out]; exact decide_eq_true (by omega)
        generalize C k = x at *
        go_wp2
        go_ret
        exact ⟨(by rw [HX.out]; rfl), rfl⟩
      | false =>
        have HX : Hid (∀ t, t < k + 1 → ((C t).toList == s.toList) = false) := fun t ht => by
          by_cases e : t = k
          · rw [e]; exact he
          · exact HALL.out t (by omega)
        generalize C k = x at *
        go_wp2
        go_round
        case rel => exact ⟨k + 1, by omega, by go_num, HX.out⟩
        case measure => simp [intOf]; omega
    · have HX : Hid (b = false) := by rw [HB.out, colI_miss (fun t ht => HALL.out t (by omega))]; rfl
      go_wp2
      go_ret
      exact ⟨(by rw [HX.out]; rfl), rfl⟩
set_option maxHeartbeats 1600000 in
theorem allThere_is (v kv : Value) (a l : Txts) (w : World) (hv : StrsIs w v a.len a.at_) (hk : StrsIs w kv l.len l.at_) :
    Calls Tryz.prog 17 #[v, kv] w fun e w' => e = .returned (.bool (allT a l)) ∧ w' = w := by
  have CH : Hid (∀ s, Calls Tryz.prog 73 #[v, .string s] w fun e w' => e = .returned (.bool (decide (0 ≤ colI a.at_ a.len s))) ∧ w' = w) := fun s => hasTxt_is v a.len a.at_ s w hv
  obtain ⟨ka, kc, rfl, h1, h2, _, h3⟩ := hk
  have H3 := hidK h3
  unfold maxLen at h2
  obtain ⟨b, hb⟩ : ∃ b, b = allT a l := ⟨_, rfl⟩
  rw [← hb]
  have HB := hidK hb
  have hsh : ∃ va vc, v = .slice va a.len vc := by obtain ⟨va, vc, h, _⟩ := hv; exact ⟨va, vc, h⟩
  obtain ⟨va, vc, rfl⟩ := hsh
  clear h3 hb hv
  obtain ⟨n, hn⟩ : ∃ n, n = l.len := ⟨_, rfl⟩
  rw [← hn] at h1 ⊢
  rw [← hn] at H3
  have HN := hidK hn
  clear hn
  go_enter Tryz.func17, Tryz.ntmps17
  go_wp2
  go_loop [5] (fun i => ∃ k : Nat, k ≤ n ∧ i = .int .i64 (k : Int) ∧ ∀ t, t < k → 0 ≤ colI a.at_ a.len (l.at_ t)) (fun i => n - (intOf i).toNat)
  case atStart => exact ⟨0, Nat.zero_le _, rfl, fun t ht => absurd ht (Nat.not_lt_zero t)⟩
  case round =>
    obtain ⟨k, hk, rfl, hall⟩ := hrel
    have HALL := hidK hall
    clear hall
    by_cases hlt : k < n
    · obtain ⟨bb, off, rfl, hbl, hat⟩ := H3.out (by omega)
      have e1 := hat k hlt
      have hki : (k : Int) < (n : Int) := by omega
      have CH1 := hidK (CH.out (l.at_ k))
      clear hat
      by_cases hf : 0 ≤ colI a.at_ a.len (l.at_ k)
      · have HX : Hid (∀ t, t < k + 1 → 0 ≤ colI a.at_ a.len (l.at_ t)) := fun t ht => by
          by_cases e : t = k
          · rw [e]; exact hf
          · exact HALL.out t (by omega)
        rw [decide_eq_true hf] at CH1
        generalize l.at_ k = x at *
        clear hf
        go_wp2_with (go_at_call 73; refine CH1.out.mono ?_; rintro e w' ⟨rfl, hww⟩; obtain rfl := hww.symm; clear hww CH1)
        go_round
        case rel => exact ⟨k + 1, by omega, by go_num, HX.out⟩
        case measure => simp [intOf]; omega
      · have HX : Hid (b = false) := by
          rw [HB.out]
          cases e : allT a l with
          | false => rfl
          | true => exact absurd (found_iff.1 e k (by rw [← HN.out]; exact hlt)) hf
        rw [decide_eq_false hf] at CH1
        generalize l.at_ k = x at *
        clear hf
        go_wp2_with (go_at_call 73; refine CH1.out.mono ?_; rintro e w' ⟨rfl, hww⟩; obtain rfl := hww.symm; clear hww CH1)
        go_ret
        exact ⟨(by rw [HX.out]; rfl), rfl⟩
    · have HX : Hid (b = true) := by
        rw [HB.out]
        exact found_iff.2 fun t ht => HALL.out t (by rw [← HN.out] at ht; omega)
      go_wp2
      go_ret
      exact ⟨(by rw [HX.out]; rfl), rfl⟩
set_option maxHeartbeats 1600000 in
theorem inCount_is (k : Int) (w : World) : Calls Tryz.prog 13 #[.int .i64 k] w fun e w' => e = .returned (.int .i64 (inC k : Nat)) ∧ w' = w := by
  by_cases h : k = 1 ∨ k = 14 ∨ k = 4 ∨ k = 5 ∨ k = 6 ∨ k = 7 ∨ k = 13
  · rcases h with rfl | rfl | rfl | rfl | rfl | rfl | rfl
    all_goals
      go_enter Tryz.func13, Tryz.ntmps13
      go_wp2
      go_ret
      exact ⟨rfl, rfl⟩
  · have hc : inC k = 1 := by unfold inC; rw [if_neg (by omega), if_neg (by omega)]
    rw [hc]
    have b1 : (k == 1) = false := by rw [beq_eq_false_iff_ne]; omega
    have b4 : (k == 4) = false := by rw [beq_eq_false_iff_ne]; omega
    have b5 : (k == 5) = false := by rw [beq_eq_false_iff_ne]; omega
    have b6 : (k == 6) = false := by rw [beq_eq_false_iff_ne]; omega
    have b7 : (k == 7) = false := by rw [beq_eq_false_iff_ne]; omega
    have b13 : (k == 13) = false := by rw [beq_eq_false_iff_ne]; omega
    have b14 : (k == 14) = false := by rw [beq_eq_false_iff_ne]; omega
    clear h hc
    go_enter Tryz.func13, Tryz.ntmps13
    go_wp2
    go_ret
    exact ⟨rfl, rfl⟩
end Go.Proofs.YtkcejelmohameaaGreatDoor
set_option linter.unusedVariables false
namespace Go.Proofs.YtkcejelmohameaaGreatDoor
set_option maxRecDepth 100000
open Go.RowKit Go.WideShapes

/-- a plan lies there -/
def PlanIs (w : World) (v : Value) (N : Nat) (P : Nat → Opm) : Prop := ∃ a cap, v = .slice a N cap ∧ N ≤ cap ∧ cap ≤ maxLen ∧ (0 < N → ∃ b off, a = some ⟨b, off, none⟩ ∧ b < w.heap.size ∧ ∀ i, i < N → OpAt w b (off + i * 13) (P i))
theorem PlanIs.below {w w' : World} {v : Value} {N : Nat} {P : Nat → Opm} (h : PlanIs w v N P) (hb : Below w.heap.size w w') : PlanIs w' v N P := by
  obtain ⟨a, cap, h1, h2, h3, h4⟩ := h
  refine ⟨a, cap, h1, h2, h3, fun h0 => ?_⟩
  obtain ⟨b, off, h5, h6, h7⟩ := h4 h0
  exact ⟨b, off, h5, Nat.lt_of_lt_of_le h6 hb.size, fun i hi => (h7 i hi).below hb⟩
/-- lists of texts, in a list -/
def ListsIs (w : World) (v : Value) (n : Nat) (K : Nat → Txts) : Prop := ∃ a cap, v = .slice a n cap ∧ n ≤ cap ∧ cap ≤ maxLen ∧ (0 < n → ∃ b off, a = some ⟨b, off, none⟩ ∧ b < w.heap.size ∧ ∀ j, j < n → ∃ ua uc, w.cell? ⟨b, off + j, none⟩ = some (.slice ua (K j).len uc) ∧ StrsIs w (.slice ua (K j).len uc) (K j).len (K j).at_)
theorem ListsIs.below {w w' : World} {v : Value} {n : Nat} {K : Nat → Txts} (h : ListsIs w v n K) (hb : Below w.heap.size w w') : ListsIs w' v n K := by
  obtain ⟨a, cap, h1, h2, h3, h4⟩ := h
  refine ⟨a, cap, h1, h2, h3, fun h0 => ?_⟩
  obtain ⟨b, off, h5, h6, h7⟩ := h4 h0
  refine ⟨b, off, h5, Nat.lt_of_lt_of_le h6 hb.size, fun j hj => ?_⟩
  obtain ⟨ua, uc, k1, k2⟩ := h7 j hj
  exact ⟨ua, uc, (hb.cell (p := ⟨b, off + j, none⟩) h6).trans k1, k2.below hb⟩
theorem ListsIs.nil (w : World) (K : Nat → Txts) : ListsIs w (.slice none 0 0) 0 K := ⟨none, 0, rfl, Nat.le_refl _, Nat.zero_le _, fun h => absurd h (Nat.lt_irrefl 0)⟩
theorem may_fine {T : Txts} (h : colsF T.at_ T.len = 0) : StrsFine T.len T.at_ := by
  have h8 := colsF_le h
  refine ⟨by omega, fun i hi => ?_⟩
  unfold colsF at h
  rw [if_neg (by omega)] at h
  have h1 := firstE_zero h i hi
  unfold colE at h1
  by_cases e : (T.at_ i).size < 1 ∨ 20 < (T.at_ i).size
  · rw [if_pos e] at h1; exact absurd h1 (by decide)
  · unfold maxLen; omega
/-- what lies in the two lists that are filled -/
def ColI (w : World) (tb cb B i : Nat) (K : Nat → Txts) : Prop := ∀ j, j < i → ∃ ca ck qa qk, w.cell? ⟨tb, j * 2, none⟩ = some (.slice ca (K j).len ck) ∧ w.cell? ⟨tb, j * 2 + 1, none⟩ = some (.slice qa 0 qk) ∧ w.cell? ⟨cb, j, none⟩ = some (.slice ca (K j).len ck) ∧ Far B w (.slice ca (K j).len ck) (K j).len (K j).at_ ∧ Row0 (.slice qa 0 qk)
theorem ColI.below {w w' : World} {tb cb B i : Nat} {K : Nat → Txts} (h : ColI w tb cb B i K) (ht : tb < w.heap.size) (hc : cb < w.heap.size) (hb : Below w.heap.size w w') : ColI w' tb cb B i K := fun j hj => by
  obtain ⟨ca, ck, qa, qk, h1, h2, h3, h4, h5⟩ := h j hj
  exact ⟨ca, ck, qa, qk, (hb.cell (p := ⟨tb, _, none⟩) ht).trans h1, (hb.cell (p := ⟨tb, _, none⟩) ht).trans h2, (hb.cell (p := ⟨cb, _, none⟩) hc).trans h3, h4.below hb, h5⟩
theorem ColI.told {w : World} {tb cb B i : Nat} {P : Nat → Opm} (h : ColI w tb cb B i (colK P)) (hP : ∀ j, j < i → opF P j = 0) : Told w tb i (colK P) := fun j hj => by
  obtain ⟨ca, ck, qa, qk, h1, h2, h3, h4, h5⟩ := h j hj
  exact ⟨ca, ck, qa, qk, h1, h2, h4.is, h5, colK_may (hP j hj), may_fine (colK_may (hP j hj))⟩
/-- one more is laid into both -/
theorem ColI.add {w : World} {tb cb B i N : Nat} {K : Nat → Txts} {Y Z : Array Value} {Ty Tz : TypeId} {ca qa : Option Addr} {ck qk : Nat} (h : ColI w tb cb B i K) (hY : w.heap[tb]? = some (.cells Y Ty)) (hZ : w.heap[cb]? = some (.cells Z Tz)) (hYn : Y.size = N * 2) (hZn : Z.size = N) (hi : i < N) (hne : tb ≠ cb) (htB : tb < B) (hcB : cb < B) (hf : Far B w (.slice ca (K i).len ck) (K i).len (K i).at_) (hr : Row0 (.slice qa 0 qk)) :
    ColI (((w.setCell ⟨tb, i * 2, none⟩ (.slice ca (K i).len ck)).setCell ⟨tb, i * 2 + 1, none⟩ (.slice qa 0 qk)).setCell ⟨cb, i, none⟩ (.slice ca (K i).len ck)) tb cb B (i + 1) K := by
  have hfar : ∀ {c : Value} {n : Nat} {C : Nat → ByteArray}, Far B w c n C → Far B (((w.setCell ⟨tb, i * 2, none⟩ (.slice ca (K i).len ck)).setCell ⟨tb, i * 2 + 1, none⟩ (.slice qa 0 qk)).setCell ⟨cb, i, none⟩ (.slice ca (K i).len ck)) c n C := fun h => ((h.setCell (a := ⟨tb, i * 2, none⟩) htB _).setCell (a := ⟨tb, i * 2 + 1, none⟩) htB _).setCell (a := ⟨cb, i, none⟩) hcB _
  have hb : (((w.setCell ⟨tb, i * 2, none⟩ (.slice ca (K i).len ck)).setCell ⟨tb, i * 2 + 1, none⟩ (.slice qa 0 qk)).setCell ⟨cb, i, none⟩ (.slice ca (K i).len ck)).heap[tb]? = some (.cells ((Y.setIfInBounds (i * 2) (.slice ca (K i).len ck)).setIfInBounds (i * 2 + 1) (.slice qa 0 qk)) Ty) := kOth (kSame (kSame hY _ _) _ _) hne
  have hc : (((w.setCell ⟨tb, i * 2, none⟩ (.slice ca (K i).len ck)).setCell ⟨tb, i * 2 + 1, none⟩ (.slice qa 0 qk)).setCell ⟨cb, i, none⟩ (.slice ca (K i).len ck)).heap[cb]? = some (.cells (Z.setIfInBounds i (.slice ca (K i).len ck)) Tz) := kSame (kOth (kOth hZ (Ne.symm hne)) (Ne.symm hne)) _ _
  intro j hj
  by_cases e : j = i
  · subst e
    refine ⟨ca, ck, qa, qk, ?_, ?_, ?_, hfar hf, hr⟩
    · rw [Lib.cell_of_heap hb]
      simp [Array.getElem?_setIfInBounds, hYn]; omega
    · rw [Lib.cell_of_heap hb]
      simp [Array.getElem?_setIfInBounds, hYn]; omega
    · rw [Lib.cell_of_heap hc]
      simp [Array.getElem?_setIfInBounds, hZn]; omega
  · obtain ⟨ca', ck', qa', qk', h1, h2, h3, h4, h5⟩ := h j (by omega)
    refine ⟨ca', ck', qa', qk', ?_, ?_, ?_, hfar h4, h5⟩
    · rw [Lib.cell_of_heap hY] at h1
      rw [Lib.cell_of_heap hb, ← h1]
      simp only [Array.getElem?_setIfInBounds]
      rw [if_neg (by omega), if_neg (by omega)]
    · rw [Lib.cell_of_heap hY] at h2
      rw [Lib.cell_of_heap hb, ← h2]
      simp only [Array.getElem?_setIfInBounds]
      rw [if_neg (by omega), if_neg (by omega)]
    · rw [Lib.cell_of_heap hZ] at h3
      rw [Lib.cell_of_heap hc, ← h3]
      simp only [Array.getElem?_setIfInBounds]
      rw [if_neg (by omega)]
theorem make_rels (k : Nat) (hk : k ≤ 200000) : ∃ Z : Array Value, Z.size = k * 2 ∧ ∀ W : World, (Instr.makeSlice 32 (.int .i64 (k : Int)) (.int .i64 (k : Int))).run Tryz.prog W = .ok (.slice (some ⟨W.heap.size, 0, none⟩) k k) (W.alloc (.cells Z 40)) := by
  obtain ⟨i0, hi0, hz0, hz1, hz2⟩ := info_parts (show (Tryz.prog.info? 40).map (fun i => (i.zero, i.size, i.bytes)) = some (some (.agg #[.slice none 0 0, .slice none 0 0]), 2, 48) by kernel_rfl)
  refine ⟨madeCells (Value.cells (.agg #[.slice none 0 0, .slice none 0 0])) (k * i0.size), ?_, fun W => ?_⟩
  · rw [size_madeCells, hz1]
  · have h := run_make (P := Tryz.prog) W 32 40 i0 _ Tryz.underlying32 hi0 hz0 .i64 .i64 k k (by omega) (Int.le_refl _) (by rw [hz2]; omega) (by omega)
    simp only [Int.toNat_natCast] at h
    exact h
theorem make_cols (k : Nat) (hk : k ≤ 200000) : ∃ Z : Array Value, Z.size = k ∧ ∀ W : World, (Instr.makeSlice 24 (.int .i64 (k : Int)) (.int .i64 (k : Int))).run Tryz.prog W = .ok (.slice (some ⟨W.heap.size, 0, none⟩) k k) (W.alloc (.cells Z 35)) := by
  obtain ⟨i0, hi0, hz0, hz1, hz2⟩ := info_parts (show (Tryz.prog.info? 35).map (fun i => (i.zero, i.size, i.bytes)) = some (some (.slice none 0 0), 1, 24) by kernel_rfl)
  refine ⟨madeCells (Value.cells (.slice none 0 0)) (k * i0.size), ?_, fun W => ?_⟩
  · rw [size_madeCells, hz1, Nat.mul_one]
  · have h := run_make (P := Tryz.prog) W 24 35 i0 _ Tryz.underlying24 hi0 hz0 .i64 .i64 k k (by omega) (Int.le_refl _) (by rw [hz2]; omega) (by omega)
    simp only [Int.toNat_natCast] at h
    exact h
theorem inC_le (k : Int) : inC k ≤ 2 := by unfold inC; split <;> (try split) <;> omega
end Go.Proofs.YtkcejelmohameaaGreatDoor
set_option linter.unusedVariables false
namespace Go.Proofs.YtkcejelmohameaaGreatDoor
set_option maxRecDepth 100000
open Go.RowKit Go.WideShapes

/-- texts that lie apart from a list that grows -/
def TxtApart (w : World) (B : Nat) (ob : Option Nat) (u : Value) (n : Nat) (C : Nat → ByteArray) : Prop :=
  (∃ a c, u = .slice a n c) ∧ ∀ W, w.heap.size ≤ W.heap.size → (∀ b, B ≤ b → b < w.heap.size → some b ≠ ob → W.heap[b]? = w.heap[b]?) → StrsIs W u n C
theorem TxtApart.is {w : World} {B : Nat} {ob : Option Nat} {u : Value} {n : Nat} {C : Nat → ByteArray} (h : TxtApart w B ob u n C) : StrsIs w u n C := h.2 w (Nat.le_refl _) fun _ _ _ _ => rfl
theorem TxtApart.kept {w w' : World} {B : Nat} {ob ob' : Option Nat} {u : Value} {n : Nat} {C : Nat → ByteArray} (h : TxtApart w B ob u n C) (hs : w.heap.size ≤ w'.heap.size) (hb : ∀ b, B ≤ b → b < w.heap.size → some b ≠ ob → w'.heap[b]? = w.heap[b]? ∧ some b ≠ ob') : TxtApart w' B ob' u n C :=
  ⟨h.1, fun W h1 h2 => h.2 W (Nat.le_trans hs h1) fun b b1 b2 b3 => (h2 b b1 (Nat.lt_of_lt_of_le b2 hs) (hb b b1 b2 b3).2).trans (hb b b1 b2 b3).1⟩
theorem TxtApart.from {w : World} {B g : Nat} {ob : Option Nat} {a : Option Addr} {n c : Nat} {C : Nat → ByteArray} (h : StrsFrom w g (.slice a n c) n C) (hB : B ≤ g) (ho : ∀ z, ob = some z → z < g) : TxtApart w B ob (.slice a n c) n C :=
  ⟨⟨_, _, rfl⟩, fun W h1 h2 => (h.keep h1 fun b b1 b2 => h2 b (by omega) b2 fun e => by have := ho b e.symm; omega).is⟩
/-- lists of texts of one's own -/
def LsOwn (w : World) (B : Nat) (v : Value) (k : Nat) (us : List Value) (K : Nat → Txts) : Prop :=
  w.ownsRow B 35 1 v k us ∧ ∀ i, i < k → ∃ u, us[i]? = some u ∧ TxtApart w B v.ownBlock u (K i).len (K i).at_
theorem LsOwn.nil (w : World) (B : Nat) (K : Nat → Txts) : LsOwn w B (.slice none 0 0) 0 [] K := ⟨World.ownsRow_nil _ _ _ _, fun i hi => absurd hi (Nat.not_lt_zero i)⟩
theorem LsOwn.shape {w : World} {B : Nat} {v : Value} {k : Nat} {us : List Value} {K : Nat → Txts} (h : LsOwn w B v k us K) : ∃ a c, v = .slice a k c := own_shape h.1
theorem LsOwn.keep {w w' : World} {B : Nat} {v : Value} {k : Nat} {us : List Value} {K : Nat → Txts} (h : LsOwn w B v k us K) (hs : w.heap.size ≤ w'.heap.size) (hb : ∀ b, B ≤ b → b < w.heap.size → w'.heap[b]? = w.heap[b]?) : LsOwn w' B v k us K := by
  obtain ⟨⟨h1, h2⟩, h3⟩ := h
  refine ⟨⟨h1, ?_⟩, fun i hi => ?_⟩
  · rcases h2 with h2 | ⟨g, cap, cur, hv, hg, hh, r⟩
    · exact .inl h2
    · exact .inr ⟨g, cap, cur, hv, hg, by rw [hb g hg (Array.getElem?_eq_some_iff.1 hh).1]; exact hh, r⟩
  · obtain ⟨u, k1, k2⟩ := h3 i hi
    exact ⟨u, k1, k2.kept hs fun b q1 q2 q3 => ⟨hb b q1 q2, q3⟩⟩
theorem LsOwn.below {w w' : World} {B : Nat} {v : Value} {k : Nat} {us : List Value} {K : Nat → Txts} (h : LsOwn w B v k us K) (hb : Below w.heap.size w w') : LsOwn w' B v k us K := h.keep hb.size fun b _ h1 => hb.block b h1
theorem LsOwn.lt {w : World} {B : Nat} {v : Value} {k : Nat} {us : List Value} {K : Nat → Txts} (h : LsOwn w B v k us K) : ∀ z, v.ownBlock = some z → B ≤ z ∧ z < w.heap.size := h.1.lt
theorem LsOwn.is {w : World} {B : Nat} {v : Value} {k : Nat} {us : List Value} {K : Nat → Txts} (h : LsOwn w B v k us K) : ListsIs w v k K := by
  obtain ⟨h1, h2⟩ := h
  have h8 := h1
  obtain ⟨hl, ⟨rfl, h3⟩ | ⟨b, cap, cur, rfl, q1, q2, q3, q4, _⟩⟩ := h1
  · subst h3
    exact ListsIs.nil w K
  · refine ⟨_, cap, rfl, q3, q4, fun h0 => ⟨b, 0, rfl, (Array.getElem?_eq_some_iff.1 q2).1, fun i hi => ?_⟩⟩
    obtain ⟨u, k1, k2⟩ := h2 i hi
    obtain ⟨⟨ua, uc, rfl⟩, _⟩ := k2
    obtain ⟨u', k1', k2'⟩ := h2 i hi
    rw [k1] at k1'
    cases k1'
    exact ⟨ua, uc, by rw [Nat.zero_add, h8.cellAt _ (by omega), k1], k2'.is⟩
/-- an element of it -/
theorem own_cell {w : World} {B : Nat} {e : TypeId} {v : Value} {k : Nat} {us : List Value} (h : w.ownsRow B e 1 v k us) {i : Nat} (hi : i < k) : ∃ g c, v = .slice (some ⟨g, 0, none⟩) k c ∧ B ≤ g ∧ g < w.heap.size ∧ w.cell? ⟨g, i, none⟩ = us[i]? := by
  have h8 := h
  obtain ⟨hl, ⟨rfl, h3⟩ | ⟨b, cap, cur, rfl, q1, q2, q3, q4, _⟩⟩ := h
  · omega
  · exact ⟨b, cap, rfl, q1, (Array.getElem?_eq_some_iff.1 q2).1, h8.cellAt _ (by omega)⟩
theorem infoStrs : (Tryz.prog.info? 35).map (fun i => (i.zero, i.size, i.bytes)) = some (some (.slice none 0 0), 1, 24) := by kernel_rfl
/-- a list more, behind the others -/
theorem wpList_push_ls {ops : Array Oper} {rest : List Oper} {o : Oper} {a : Act} {w : World} {Q : Exit → Act → World → Prop} (hgd : o.guard = none) (s x : Operand)
    (ho : o.op = .call { callee := .builtin .append, args := #[s, x], argTypes := #[24, 24] })
    (base m : Nat) (v : Value) (us : List Value) (K : Nat → Txts) (hs : a.eval s = v) (hv : LsOwn w base v m us K) (hbase : base ≤ w.heap.size)
    (ad : Addr) (c : Nat) (u : Value) (hx : a.eval x = .slice (some ad) 1 c) (hc : w.cell? ad = some u) (hu : TxtApart w base v.ownBlock u (K m).len (K m).at_) (hb : (m + 1) * 24 ≤ 140737488355328)
    (h : ∀ v' w', LsOwn w' base v' (m + 1) (us ++ [u]) K → (∃ a' c', v' = .slice a' (m + 1) c') → w.grownBy w' v.ownBlock → wpList Tryz.prog ops Q rest (a.put o.dst v') w') : wpList Tryz.prog ops Q (o :: rest) a w := by
  refine wpList_plain hgd fun KK hK => ?_
  obtain ⟨i0, hi0, hz0, hz1, hz2⟩ := info_parts infoStrs
  obtain ⟨h1, h2⟩ := hv
  have huo : u.oneCell' = true := by
    obtain ⟨⟨_, _, rfl⟩, _⟩ := hu
    rfl
  have hl := h1.1
  obtain ⟨v', w', hr, k1, k2, k3, k4⟩ := run_append_own_at (P := Tryz.prog) w base 24 o.type 35 i0 _ 1 24 Tryz.underlying24 hi0 hz0 hz1 hz2 rfl (by decide) v m us h1 ad 1 c [u] rfl (fun j x hj => by
    match j, hj with
    | 0, hj =>
      simp only [List.getElem?_cons_zero, Option.some.injEq] at hj
      subst hj
      simpa [Addr.add] using hc) (fun x hx => by simp at hx; rw [hx]; exact huo) (by unfold maxLen; omega) hb hbase
  unfold Oper.wp execOp
  simp only [ho, resolve, invoke, builtin, Sem.run_bind, Sem.run_pure, Result.andThen_ok, List.map_toArray, List.map_cons, List.map_nil, hs, hx, hr]
  have hkeep : ∀ {u : Value} {n : Nat} {X : Nat → ByteArray}, TxtApart w base v.ownBlock u n X → TxtApart w' base v'.ownBlock u n X := fun hh => hh.kept k2.size (fun b q1 q2 q3 => ⟨k2.block b q2 q3, fun e => by
    rcases k4 with k4 | k4
    · rw [k4] at e; exact q3 e
    · rw [k4] at e; simp at e; omega⟩)
  refine hK _ _ (h v' w' ⟨k1, fun i hi => ?_⟩ ?_ k2)
  · by_cases e : i = m
    · subst e
      exact ⟨u, by rw [List.getElem?_append_right (by omega)]; simp [show i - us.length = 0 by omega], hkeep hu⟩
    · obtain ⟨x, q1, q2⟩ := h2 i (by omega)
      exact ⟨x, by rw [List.getElem?_append_left (by omega)]; exact q1, hkeep q2⟩
  · obtain ⟨_, ⟨rfl, h0⟩ | ⟨b, cap, cur, rfl, _⟩⟩ := k1
    · omega
    · exact ⟨_, _, rfl⟩
def elemV (u : Value) : List Value := [u]
theorem elemV_in {w : World} (u : Value) (t : TypeId) : ∀ j x, (elemV u)[j]? = some x → (w.alloc (.cells #[u] t)).cell? ((⟨w.heap.size, 0, none⟩ : Addr).add j) = some x := by
  intro j x hj
  have hj3 : j < 1 := (List.getElem?_eq_some_iff.1 hj).1
  match j, hj3 with
  | 0, _ => simp [elemV] at hj; subst hj; simp [Addr.add]
theorem elemV_one {a : Option Addr} {n c : Nat} : ∀ u ∈ elemV (.slice a n c), u.oneCell' = true := by
  intro u hu
  simp [elemV] at hu
  rw [hu]; rfl
def nilsV : List Value := [.slice none 0 0, .slice none 0 0]
theorem nilsV_in {w : World} (t : TypeId) : ∀ j x, nilsV[j]? = some x → (w.alloc (.cells #[.slice none 0 0, .slice none 0 0] t)).cell? ((⟨w.heap.size, 0, none⟩ : Addr).add j) = some x := by
  intro j x hj
  have hj3 : j < 2 := (List.getElem?_eq_some_iff.1 hj).1
  match j, hj3 with
  | 0, _ => simp [nilsV] at hj; subst hj; simp [Addr.add]
  | 1, _ => simp [nilsV] at hj; subst hj; simp [Addr.add]
theorem nilsV_one : ∀ u ∈ nilsV, u.oneCell' = true := by
  intro u hu
  simp [nilsV] at hu
  rw [hu]; rfl
set_option maxHeartbeats 1600000 in
/-- the same lists, wherever they lie -/
theorem sameLists_is (u v : Value) (n : Nat) (K : Nat → Txts) (w : World) (hu : ListsIs w u n K) (hv : ListsIs w v n K) :
    Calls Tryz.prog 6 #[u, v] w fun e w' => e = .returned (.bool true) ∧ Below w.heap.size w w' := by
  obtain ⟨qa, qcap, rfl, q1, q2, q3⟩ := hu
  obtain ⟨qa', qcap', rfl, q1', q2', q3'⟩ := hv
  have hmm : n ≤ 9223372036854775807 := by unfold maxLen at q2; omega
  have HQ : Hid (∀ W i, Below w.heap.size w W → i < n → ∃ b off ua uc b' off' ua' uc', qa = some ⟨b, off, none⟩ ∧ qa' = some ⟨b', off', none⟩ ∧ b < w.heap.size ∧ b' < w.heap.size ∧ W.cell? ⟨b, off + i, none⟩ = some (.slice ua (K i).len uc) ∧ W.cell? ⟨b', off' + i, none⟩ = some (.slice ua' (K i).len uc') ∧ StrsIs W (.slice ua (K i).len uc) (K i).len (K i).at_ ∧ StrsIs W (.slice ua' (K i).len uc') (K i).len (K i).at_) := fun W i hW hi => by
    obtain ⟨b, off, h1, h2, h3⟩ := q3 (by omega)
    obtain ⟨b', off', h1', h2', h3'⟩ := q3' (by omega)
    obtain ⟨ua, uc, h4, h5⟩ := h3 i hi
    obtain ⟨ua', uc', h4', h5'⟩ := h3' i hi
    exact ⟨b, off, ua, uc, b', off', ua', uc', h1, h1', h2, h2', (hW.cell (p := ⟨b, off + i, none⟩) h2).trans h4, (hW.cell (p := ⟨b', off' + i, none⟩) h2').trans h4', h5.below hW, h5'.below hW⟩
  clear q3 q3' q2 q2'
  go_enter Tryz.func6, Tryz.ntmps6
  go_wp2
  go_loopw [5] (fun i wr => ∃ k : Nat, k ≤ n ∧ i = .int .i64 k ∧ Below w.heap.size w wr) (fun i _ => n - (intOf i).toNat)
  case atStart => exact ⟨0, Nat.zero_le _, rfl, Below.refl _ _⟩
  case round =>
    obtain ⟨k, hk, rfl, hbr⟩ := hrel
    have HBR := hidK hbr
    have hzr := hbr.size
    clear hbr
    by_cases hlt : k < n
    · obtain ⟨b, off, ua, uc, b', off', ua', uc', rfl, rfl, hb0, hb0', e1, e2, hu, hu'⟩ := HQ.out wr k HBR.out hlt
      have hbz : b < wr.heap.size := by omega
      have hbz' : b' < wr.heap.size := by omega
      have hki : (k : Int) < (n : Int) := by omega
      have CI : Hid (∀ z, Calls Tryz.prog 18 #[.slice ua (K k).len uc, .slice ua' (K k).len uc'] (wr.drewN z) fun e w' => e = .returned (.bool true) ∧ ∃ q, w' = (wr.drewN z).drewN q) := fun z => sameTexts_is _ _ _ _ _ (hu.below (below_drawn (Below.refl _ _) z)) (hu'.below (below_drawn (Below.refl _ _) z))
      clear hu hu'
      generalize (K k).len = kl at *
      go_wp2
      go_quiet ((go_at_call 18; exact Calls.quiet_of (CI.out _)))
      go_wp2
      go_roundw
      case rel => exact ⟨k + 1, by omega, by go_num, below_drawn HBR.out _⟩
      case measure => simp [intOf]; omega
    · have hki : ¬ (k : Int) < (n : Int) := by omega
      go_wp2
      go_ret
      exact ⟨rfl, HBR.out⟩
end Go.Proofs.YtkcejelmohameaaGreatDoor
set_option linter.unusedVariables false
namespace Go.Proofs.YtkcejelmohameaaGreatDoor
set_option maxRecDepth 100000
open Go.RowKit Go.ChangeShapes Go.WideShapes Go.Deep

theorem cellsOp : Tryz.prog.cellsOf 42 = 13 := by kernel_rfl
theorem cellsTestO : Tryz.prog.cellsOf 37 = 2 := by kernel_rfl
theorem cellsInts : Tryz.prog.cellsOf 34 = 1 := by kernel_rfl
theorem open_eleven {H : Type} {enc : TypeId × Value → H} {P : Program} {w : World} {t : TypeId} {f0 f1 f2 f3 f4 f5 f6 f7 f8 f9 f10 : Field} {fuel : Nat} {cs : List Value} {x : DataW H × List MemPlace} (ht : P.underlying t = some (.struct #[f0, f1, f2, f3, f4, f5, f6, f7, f8, f9, f10]))
    (h : DataW.trod enc P w 0 (fun _ => true) true fuel t cs = some x) : ∃ n y0 y1 y2 y3 y4 y5 y6 y7 y8 y9 y10, x.1 = .agg [y0.1, y1.1, y2.1, y3.1, y4.1, y5.1, y6.1, y7.1, y8.1, y9.1, y10.1] ∧ cs.length = P.cellsOf t ∧ DataW.trod enc P w 0 (fun _ => true) true n f0.type ((cs.drop f0.offset).take (P.cellsOf f0.type)) = some y0 ∧ DataW.trod enc P w 0 (fun _ => true) true n f1.type ((cs.drop f1.offset).take (P.cellsOf f1.type)) = some y1 ∧ DataW.trod enc P w 0 (fun _ => true) true n f2.type ((cs.drop f2.offset).take (P.cellsOf f2.type)) = some y2 ∧ DataW.trod enc P w 0 (fun _ => true) true n f3.type ((cs.drop f3.offset).take (P.cellsOf f3.type)) = some y3 ∧ DataW.trod enc P w 0 (fun _ => true) true n f4.type ((cs.drop f4.offset).take (P.cellsOf f4.type)) = some y4 ∧ DataW.trod enc P w 0 (fun _ => true) true n f5.type ((cs.drop f5.offset).take (P.cellsOf f5.type)) = some y5 ∧ DataW.trod enc P w 0 (fun _ => true) true n f6.type ((cs.drop f6.offset).take (P.cellsOf f6.type)) = some y6 ∧ DataW.trod enc P w 0 (fun _ => true) true n f7.type ((cs.drop f7.offset).take (P.cellsOf f7.type)) = some y7 ∧ DataW.trod enc P w 0 (fun _ => true) true n f8.type ((cs.drop f8.offset).take (P.cellsOf f8.type)) = some y8 ∧ DataW.trod enc P w 0 (fun _ => true) true n f9.type ((cs.drop f9.offset).take (P.cellsOf f9.type)) = some y9 ∧ DataW.trod enc P w 0 (fun _ => true) true n f10.type ((cs.drop f10.offset).take (P.cellsOf f10.type)) = some y10 := by
  obtain ⟨xs, n, _, rfl, hl, hlen, hf⟩ := DataW.trod_struct ht h
  match xs, hlen with
  | [y0, y1, y2, y3, y4, y5, y6, y7, y8, y9, y10], _ =>
    exact ⟨n, y0, y1, y2, y3, y4, y5, y6, y7, y8, y9, y10, rfl, hl, by simpa using hf 0 f0 rfl, by simpa using hf 1 f1 rfl, by simpa using hf 2 f2 rfl, by simpa using hf 3 f3 rfl, by simpa using hf 4 f4 rfl, by simpa using hf 5 f5 rfl, by simpa using hf 6 f6 rfl, by simpa using hf 7 f7 rfl, by simpa using hf 8 f8 rfl, by simpa using hf 9 f9 rfl, by simpa using hf 10 f10 rfl⟩
/-- a list of numbers -/
theorem open_zs {H : Type} {enc : TypeId × Value → H} {W : World} {fuel : Nat} {v : Value} {x : DataW H × List MemPlace} (h : DataW.trod enc Tryz.prog W 0 (fun _ => true) true fuel 34 [v] = some x) :
    ∃ (n : Nat) (Z : Nat → Int), ZsIs W v n Z := by
  rcases open_slice1 Tryz.underlying34 cells3 h with ⟨h1, _⟩ | ⟨a, len, cap, m, n, V, D, Pl, h1, hb, hl, hm, hmm, rfl, hx⟩
  · simp only [List.cons.injEq, and_true] at h1
    exact ⟨0, fun _ => 0, none, 0, h1, Nat.le_refl _, Nat.zero_le _, fun h => absurd h (Nat.lt_irrefl 0)⟩
  simp only [if_true] at hmm
  subst hmm
  simp only [List.cons.injEq, and_true] at h1
  subst h1
  haveI : Inhabited Int := ⟨0⟩
  obtain ⟨Z, hZ⟩ := choose_lt (α := Int) (n := m) (p := fun i (k : Int) => W.cell? (a.add i) = some (.int .i64 k)) (fun i hi => by
    obtain ⟨h1, h2⟩ := hx i hi
    obtain ⟨k, e, _, _⟩ := DataW.trod_int Tryz.underlying3 h2
    simp only [List.cons.injEq, and_true] at e
    exact ⟨k, e ▸ h1⟩)
  refine ⟨len, Z, some a, m, rfl, hl, hm, fun h0 => ?_⟩
  obtain ⟨b, off, spot⟩ := a
  have h00 := hZ 0 (by omega)
  have hspot : spot = none := by simpa [Addr.add] using World.cell?_spot h00
  subst hspot
  refine ⟨b, off, rfl, by simpa [Addr.add] using block_lt h00, fun i hi => ?_⟩
  have := hZ i (by omega)
  rwa [add_plain] at this
/-- an op's cells -/
def opCs (o : Opm) (v1 v3 v4 v11 v12 : Value) : List Value := [.int .i64 o.kind, v1, .string o.new, v3, v4, .string o.part, .string o.name, .int .i64 o.n, .int .i64 o.axis, .int .i64 o.tk, .string o.tn, v11, v12]
/-- an op -/
theorem open_op {H : Type} {enc : TypeId × Value → H} {W : World} {fuel : Nat} {cs : List Value} {x : DataW H × List MemPlace} (h : DataW.trod enc Tryz.prog W 0 (fun _ => true) true fuel 42 cs = some x)
    (hz : ∀ k ∈ x.1.weights Tryz.prog 42, k ≤ reachBytes) :
    ∃ (o : Opm) (v1 v3 v4 v11 v12 : Value), cs = opCs o v1 v3 v4 v11 v12 ∧ ZsIs W v1 o.nin o.ins ∧ StrsIs W v3 o.cols.len o.cols.at_ ∧ StrsIs W v4 o.olds.len o.olds.at_ ∧ StrsIs W v11 o.rc.len o.rc.at_ ∧ RowsIs W v12 o.rm o.rr ∧ OpFine o := by
  obtain ⟨m, y0, y1, y2, y3, y4, y5, y6, y7, y8, y9, y10, hx, hl, h0, h1, h2, h3, h4, h5, h6, h7, h8, h9, h10⟩ := open_eleven Tryz.underlying42 h
  rw [cellsOp] at hl
  match cs, hl with
  | [c0, c1, c2, c3, c4, c5, c6, c7, c8, c9, c10, c11, c12], _ =>
    simp only [cells3, cells9, cellsInts, cellsStrs, cellsTestO, cellsRel, List.drop_zero, List.drop_succ_cons, List.take_succ_cons, List.take_zero] at h0 h1 h2 h3 h4 h5 h6 h7 h8 h9 h10
    rw [hx] at hz
    simp only [DataW.weights, Tryz.underlying42, DataW.weightsEach, List.map_cons, List.map_nil, List.mem_append] at hz
    obtain ⟨k0, e0, _, _⟩ := DataW.trod_int Tryz.underlying3 h0
    obtain ⟨nin, Z, hzs⟩ := open_zs h1
    obtain ⟨s2, e2, _, t2⟩ := DataW.trod_string Tryz.underlying9 h2
    obtain ⟨n3, C3, k3, g3⟩ := open_strs h3 (fun k hk => hz k (by simp [hk]))
    obtain ⟨n4, C4, k4, g4⟩ := open_strs h4 (fun k hk => hz k (by simp [hk]))
    obtain ⟨s5, e5, _, t5⟩ := DataW.trod_string Tryz.underlying9 h5
    obtain ⟨s6, e6, _, t6⟩ := DataW.trod_string Tryz.underlying9 h6
    obtain ⟨z7, e7, _, _⟩ := DataW.trod_int Tryz.underlying3 h7
    obtain ⟨z8, e8, _, _⟩ := DataW.trod_int Tryz.underlying3 h8
    obtain ⟨w0, w1, m9, hx9, hl9, h90, h91⟩ := trod_struct2 Tryz.underlying37 h9
    simp only [cells3, cells9, List.drop_zero, List.drop_succ_cons, List.take_succ_cons, List.take_zero] at h90 h91
    obtain ⟨z9, e9, _, _⟩ := DataW.trod_int Tryz.underlying3 h90
    obtain ⟨s9, e9b, _, t9⟩ := DataW.trod_string Tryz.underlying9 h91
    obtain ⟨r0, r1, m10, hx10, hl10, h100, h101⟩ := trod_struct2 Tryz.underlying40 h10
    simp only [cellsStrs, cellsRows, List.drop_zero, List.drop_succ_cons, List.take_succ_cons, List.take_zero] at h100 h101
    have hzr : ∀ k ∈ y10.1.weights Tryz.prog 40, k ≤ reachBytes := fun k hk => hz k (by simp [hk])
    rw [hx10] at hzr
    simp only [DataW.weights, Tryz.underlying40, DataW.weightsEach, List.map_cons, List.map_nil, List.mem_append] at hzr
    obtain ⟨n11, C11, k11, g11⟩ := open_strs h100 (fun k hk => hzr k (.inl hk))
    obtain ⟨n12, R12, k12, g12⟩ := open_rows h101 (fun k hk => hzr k (.inr (.inl hk)))
    simp only [List.cons.injEq, and_true] at e0 e2 e5 e6 e7 e8 e9 e9b
    subst e0 e2 e5 e6 e7 e8 e9 e9b
    exact ⟨⟨k0, nin, Z, s2, ⟨n3, C3⟩, ⟨n4, C4⟩, s5, s6, z7, z8, z9, s9, ⟨n11, C11⟩, n12, R12⟩, c1, c3, c4, c11, c12, rfl, hzs, k3, k4, k11, k12, ⟨t2, g3, g4, t5, t6, t9, g11, g12⟩⟩
theorem opCs_at {o : Opm} {v1 v3 v4 v11 v12 : Value} {W : World} {b off : Nat} (h : ∀ r, r < 13 → W.cell? ⟨b, off + r, none⟩ = (opCs o v1 v3 v4 v11 v12)[r]?) (hb : b < W.heap.size) (h1 : ZsIs W v1 o.nin o.ins) (h3 : StrsIs W v3 o.cols.len o.cols.at_) (h4 : StrsIs W v4 o.olds.len o.olds.at_) (h11 : StrsIs W v11 o.rc.len o.rc.at_) (h12 : RowsIs W v12 o.rm o.rr) : OpAt W b off o := by
  have h1' := h1
  have h3' := h3
  have h4' := h4
  have h11' := h11
  have h12' := h12
  obtain ⟨a1, c1, rfl, _⟩ := h1'
  obtain ⟨a3, c3, rfl, _⟩ := h3'
  obtain ⟨a4, c4, rfl, _⟩ := h4'
  obtain ⟨a11, c11, rfl, _⟩ := h11'
  obtain ⟨a12, c12, rfl, _⟩ := h12'
  exact ⟨hb, h 0 (by omega), ⟨a1, c1, h 1 (by omega), h1⟩, h 2 (by omega), ⟨a3, c3, h 3 (by omega), h3⟩, ⟨a4, c4, h 4 (by omega), h4⟩, h 5 (by omega), h 6 (by omega), h 7 (by omega), h 8 (by omega), h 9 (by omega), h 10 (by omega), ⟨a11, c11, h 11 (by omega), h11⟩, ⟨a12, c12, h 12 (by omega), h12⟩⟩
instance : Inhabited Opm := ⟨⟨0, 0, fun _ => 0, ⟨#[]⟩, noT, noT, ⟨#[]⟩, ⟨#[]⟩, 0, 0, 0, ⟨#[]⟩, noT, 0, fun _ => ⟨0, fun _ => ⟨0, 0, ⟨#[]⟩⟩⟩⟩⟩
/-- a plan -/
theorem open_plan {H : Type} {enc : TypeId × Value → H} {W : World} {fuel : Nat} {v : Value} {x : DataW H × List MemPlace} (h : DataW.trod enc Tryz.prog W 0 (fun _ => true) true fuel 23 [v] = some x)
    (hz : ∀ k ∈ x.1.weights Tryz.prog 23, k ≤ reachBytes) : ∃ (N : Nat) (P : Nat → Opm), PlanIs W v N P ∧ ∀ i, i < N → OpFine (P i) := by
  rcases open_slice Tryz.underlying23 h with ⟨h1, _⟩ | ⟨a, len, cap, m, n, D, Pl, h1, hb, hl, hm, hmm, rfl, hx⟩
  · simp only [List.cons.injEq, and_true] at h1
    exact ⟨0, fun _ => default, ⟨none, 0, h1, Nat.le_refl _, Nat.zero_le _, fun h => absurd h (Nat.lt_irrefl 0)⟩, fun i hi => absurd hi (Nat.not_lt_zero i)⟩
  simp only [if_true] at hmm
  subst hmm
  simp only [List.cons.injEq, and_true] at h1
  subst h1
  obtain ⟨hw, hel⟩ := sliceW Tryz.underlying23 hz
  obtain ⟨P, hP⟩ := choose_lt (α := Opm) (n := len) (p := fun i (o : Opm) => ∃ v1 v3 v4 v11 v12, W.cells? 0 (a.add (i * 13)) 13 = some (opCs o v1 v3 v4 v11 v12) ∧ ZsIs W v1 o.nin o.ins ∧ StrsIs W v3 o.cols.len o.cols.at_ ∧ StrsIs W v4 o.olds.len o.olds.at_ ∧ StrsIs W v11 o.rc.len o.rc.at_ ∧ RowsIs W v12 o.rm o.rr ∧ OpFine o) (fun i hi => by
    obtain ⟨cs', g1, g2⟩ := hx i (by omega)
    rw [cellsOp] at g1
    obtain ⟨o, v1, v3, v4, v11, v12, rfl, k1, k3, k4, k11, k12, kf⟩ := open_op (x := (D i, Pl i)) g2 (fun k hk => hel (D i) (List.mem_map.2 ⟨i, List.mem_range.2 hi, rfl⟩) k hk)
    exact ⟨o, v1, v3, v4, v11, v12, g1, k1, k3, k4, k11, k12, kf⟩)
  refine ⟨len, P, ⟨some a, m, rfl, hl, hm, fun h0 => ?_⟩, fun i hi => ?_⟩
  · obtain ⟨v1, v3, v4, v11, v12, g1, _⟩ := hP 0 h0
    obtain ⟨b, off, spot⟩ := a
    have g0 : W.cell? (((⟨b, off, spot⟩ : Addr).add (0 * 13)).add 0) = some (.int .i64 (P 0).kind) := (World.cells?_some g1).2.2 0 (by decide)
    rw [Nat.zero_mul] at g0
    have hspot : spot = none := by simpa [Addr.add] using World.cell?_spot g0
    subst hspot
    have hb0 : b < W.heap.size := by simpa [Addr.add] using block_lt g0
    refine ⟨b, off, rfl, hb0, fun i hi => ?_⟩
    obtain ⟨v1, v3, v4, v11, v12, g2, k1, k3, k4, k11, k12, _⟩ := hP i hi
    refine opCs_at (fun r hr => ?_) hb0 k1 k3 k4 k11 k12
    have g4 := (World.cells?_some g2).2.2 r hr
    rw [add_add, add_plain] at g4
    rw [Nat.add_assoc]
    exact g4
  · obtain ⟨_, _, _, _, _, _, _, _, _, _, _, kf⟩ := hP i hi
    exact kf
end Go.Proofs.YtkcejelmohameaaGreatDoor
