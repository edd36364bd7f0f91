import Derived.Test.YtbnlekhjgkojlaaGreatDoorDvF
import Derived.Test.YtbnlekhjgkojlaaGreatDoorQoQry
import Derived.Test.YtbnlekhjgkojlaaGreatDoorPoBack
import Derived.Test.YtbnlekhjgkojlaaGreatDoorLaidQ
import Derived.Test.YtbnlekhjgkojlaaGreatDoorPmClone
import Derived.Test.YtbnlekhjgkojlaaGreatDoorPsSame2
import Derived.Test.YtbnlekhjgkojlaaGreatDoorShelf
import Derived.Laws.Concat
set_option linter.unusedVariables false
namespace Go.Proofs.YtbnlekhjgkojlaaGreatDoor
set_option maxRecDepth 100000
open Go.RowKit
theorem md_cut {X : List UInt8} {K : List Tok} (h : MdK X K) (hl : X.length ≤ 200) : cutT X = K ∧ cutP X = 0 ∧ cutE X = 0 ∧ GoodT K ∧ K.length ≤ X.length := by
 have c := h.2 [] (.inl rfl) X [] 0 (CutTo.zero X) (by simp) (by have := h.1.1; simp; omega)
 have d := c.done (by omega) (by simp)
 simp only [List.nil_append] at d
 obtain ⟨d1, d2, d3⟩ := d
 refine ⟨d1, d2, d3, fun t ht => ⟨?_, by have := h.1.2 t ht; omega⟩, h.1.1⟩
 have g := (cut_spoken (q := X) (by omega) d3).2.1
 rw [d1] at g
 exact g t ht
theorem tq_der {s : ByteArray} {n : Nat} (h : TQ s n) : ∃ K p, MdK s.data.toList K ∧ IsSg K p 21 := by
 obtain ⟨⟨d, hd, hp⟩, _⟩ := h
 obtain ⟨K, m, p, hs⟩ := po_der hp
 exact ⟨K, p, m, hs.more (by omega)⟩
theorem md_par {X : List UInt8} {K : List Tok} (h : MdK X K) : MdK ([40] ++ (X ++ [41])) ([mOp] ++ (K ++ [mCl])) := (pk10.app (h.app bg1 pk1)).mid
theorem ls_run {K : List Tok} {p : Ph} {d : Nat} (h : IsLs K p d) (h30 : d ≤ 30) (R : List Tok) (hf : folL (hd R) = true) (hl : (K ++ R).length ≤ 200) (pb b c : Nat) : RunT pb b c (K ++ R) 18 #[.pointer (some ⟨pb, 0, none⟩)] ⟨0, 0, 0⟩ ⟨K.length, 0, 0⟩ p := by
 have r := h.run (K ++ R) 0 0 R pb b c ⟨hl, rfl⟩ hf (by omega)
 rw [Nat.zero_add] at r
 exact r
open Go.RowKit
theorem st_min0 {X : List Tok} {p : Ph} {d : Nat} (h : IsStep X p d) : IsMin X p d := by
 obtain ⟨p1, p2, p3, p4⟩ := headP_parts h.head
 refine ⟨h.ne, (headM_parts p1).1, fun T a o R pb b c hs hf ho => ?_⟩
 have hz := hs.size h.ne
 have l1 : a ≤ 300 := by omega
 have l2 : a + X.length ≤ 200 := by omega
 have e : seeM T ⟨a, o, 0⟩ 0 = hd X := see0.trans (hs.fst h.ne)
 have r0 := h.run T a o R pb b c hs (folA_S hf).1 ho
 have r1 : RunS pb b c T ⟨a + X.length, o, 0⟩ ⟨a + X.length, o, 0⟩ p p := steps_chain (pb := pb) (b := b) (c := c) (p0 := p) (L := []) (d := d) (fun e he => absurd he (by simp)) (show Sp T (a + X.length) (jt []) R from hs.rest) l2 hf ho
 exact minus_none (st := ⟨a, o, 0⟩) hs.len l1 (e.trans rfl) (headM_parts p1).2 (path_steps (st := ⟨a, o, 0⟩) hs.len l1 (e.trans rfl) p3 p2 r0 r1)
theorem ls_sg0 {X : List Tok} {p : Ph} {d : Nat} (h : IsSg X p d) : IsLs X p (d + 1) := by
 refine ⟨h.ne, h.head, fun T a o R pb b c hs hf ho => ?_⟩
 have hz := hs.size h.ne
 have l1 : a ≤ 300 := by omega
 have l2 : o ≤ 100 := by omega
 have l3 : o + 1 ≤ 200 := by omega
 have hs' : Sp T a (X ++ jt []) R := by simpa [jt] using hs
 have r := sgs_chain (pb := pb) (b := b) (c := c) (o := o + 1) (L := []) h (fun e he => absurd he (by simp)) hs' hf (by omega)
 rw [show (X ++ jt []).length = X.length by simp [jt]] at r
 exact list_one (st := ⟨a, o, 0⟩) (s0 := ⟨a, o + 1, 0⟩) (s1 := ⟨a + X.length, o + 1, 0⟩) (A := phC p []) hs.len l1 l2 ⟨by simp, l3⟩ (ent0 (by omega)) r
theorem sg_prim0 {X : List Tok} {p : Ph} {d : Nat} (h : IsPrim X p d) : IsSg X p (d + 2) := sg_min (st_min0 (st_plain h))
theorem sg_par0 {X : List Tok} {p : Ph} {d : Nat} (h : IsSg X p d) : IsSg ([mOp] ++ (X ++ [mCl])) p (d + 3) := sg_prim0 (prim_par (ls_sg0 h))
structure ParT (T : List Tok) (p : Ph) : Prop where
 good : GoodT T
 len : T.length ≤ 200
 pos : 0 < T.length
 run : ∀ pb b c, RunT pb b c T 18 #[.pointer (some ⟨pb, 0, none⟩)] ⟨0, 0, 0⟩ ⟨T.length, 0, 0⟩ p
theorem par_of {X : List UInt8} {K : List Tok} {p : Ph} {d : Nat} (m : MdK X K) (hl : X.length ≤ 200) (h : IsSg K p d) (h29 : d ≤ 29) : ParT K p ∧ cutT X = K ∧ cutP X = 0 ∧ cutE X = 0 := by
 obtain ⟨c1, c2, c3, c4, c5⟩ := md_cut m hl
 refine ⟨⟨c4, by omega, List.length_pos_iff.2 h.ne, fun pb b c => ?_⟩, c1, c2, c3⟩
 have r := ls_run (ls_sg0 h) (by omega) [] (by decide +kernel) (by rw [List.append_nil]; omega) pb b c
 rw [List.append_nil] at r
 exact r
theorem one_par : ParT [⟨2, ⟨#[]⟩, 1⟩] (litN 1) ∧ cutT [49] = [⟨2, ⟨#[]⟩, 1⟩] ∧ cutP [49] = 0 ∧ cutE [49] = 0 := par_of md_q00 (by decide) (sg_prim0 (prim_num 1)) (by decide)
theorem tq_pars {s : ByteArray} (h : TQ s 190) : ∃ p, (∃ T, ParT T p ∧ cutT s.data.toList = T ∧ cutP s.data.toList = 0 ∧ cutE s.data.toList = 0) ∧ ∀ k, k ≤ 2 → ∃ T, ParT T p ∧ cutT (Lib.repeatL [40] k ++ (s.data.toList ++ Lib.repeatL [41] k)) = T ∧ cutP (Lib.repeatL [40] k ++ (s.data.toList ++ Lib.repeatL [41] k)) = 0 ∧ cutE (Lib.repeatL [40] k ++ (s.data.toList ++ Lib.repeatL [41] k)) = 0 := by
 obtain ⟨K, p, m, hs⟩ := tq_der h
 have hl : s.data.toList.length ≤ 190 := h.2.2
 have hl2 : s.size ≤ 190 := h.2.2
 have e0 : Lib.repeatL [40] 0 ++ (s.data.toList ++ Lib.repeatL [41] 0) = s.data.toList := by
  rw [show Lib.repeatL [40] 0 = [] from rfl, show Lib.repeatL [41] 0 = [] from rfl]
  simp
 have e1 : Lib.repeatL [40] 1 ++ (s.data.toList ++ Lib.repeatL [41] 1) = [40] ++ (s.data.toList ++ [41]) := by
  rw [show Lib.repeatL [40] 1 = [40] from rfl, show Lib.repeatL [41] 1 = [41] from rfl]
 have e2 : Lib.repeatL [40] 2 ++ (s.data.toList ++ Lib.repeatL [41] 2) = [40] ++ (([40] ++ (s.data.toList ++ [41])) ++ [41]) := by
  rw [show Lib.repeatL [40] 2 = [40, 40] from rfl, show Lib.repeatL [41] 2 = [41, 41] from rfl]
  simp
 have r0 := par_of m (by omega) hs (by decide)
 have r1 := par_of (md_par m) (by simp; omega) (sg_par0 hs) (by decide)
 have r2 := par_of (md_par (md_par m)) (by simp; omega) (sg_par0 (sg_par0 hs)) (by decide)
 refine ⟨p, ⟨K, r0.1, r0.2⟩, fun k hk => ?_⟩
 obtain rfl | rfl | rfl : k = 0 ∨ k = 1 ∨ k = 2 := by omega
 · rw [e0]; exact ⟨K, r0.1, r0.2⟩
 · rw [e1]; exact ⟨_, r1.1, r1.2⟩
 · rw [e2]; exact ⟨_, r2.1, r2.2⟩
open Go.RowKit Go.WideShapes
set_option maxHeartbeats 6400000 in
theorem readTells_is (w : World) (hot : Tab3 w) (hT : Tabs w) (hm : MaxL w) (hM : MarkTab w) (hg : 0 < w.heap.size) :
 Calls Tryz.prog 6 #[] w fun e w' => e = .returned (.bool true) ∧ Below w.heap.size w w' := by
 obtain ⟨hp, d1, d2, d3⟩ := one_par
 have CC : Hid (∀ W, Below w.heap.size w W → Calls Tryz.prog 7 #[.string ⟨#[49]⟩] W fun e w' => ∃ b c, e = .returned (.tuple #[.slice (some ⟨b, 0, none⟩) 1 c, .int .i64 0, .int .i64 0]) ∧ Below w.heap.size w w' ∧ b < w'.heap.size ∧ ToksL w' b [⟨2, ⟨#[]⟩, 1⟩]) := fun W hb => by
  have h := cut_is ⟨#[49]⟩ W (by decide) (Utf8Tabs_below hT hb) (hm.below hb) (hM.below hb hg) (Nat.lt_of_lt_of_le hg hb.size)
  rw [show (⟨#[49]⟩ : ByteArray).data.toList = [49] from rfl, d1, d2, d3] at h
  refine h.mono fun e w' ⟨v, k1, k2, k3⟩ => ?_
  obtain ⟨b, c, rfl, hbl, htl⟩ := k2.lies (by decide)
  exact ⟨b, c, k1, hb.trans (k3.mono hb.size), hbl, htl⟩
 have CP : Hid (∀ W b c, Below w.heap.size w W → b < W.heap.size → ToksL W b [⟨2, ⟨#[]⟩, 1⟩] → Calls Tryz.prog 9 #[.slice (some ⟨b, 0, none⟩) 1 c] W fun e w' => ∃ a9 c9 a10 c10, e = .returned (.tuple #[.agg #[.int .i64 1, .int .i64 2, .int .i64 1, .string ⟨#[]⟩, .string ⟨#[]⟩, .int .i64 0, .int .i64 0, .int .i64 0, .string ⟨#[]⟩, .slice a9 0 c9, .slice a10 0 c10], .int .i64 0, .int .i64 0]) ∧ Below w.heap.size w w') := fun W b c hl hb ht => by
  have h := parse_good [⟨2, ⟨#[]⟩, 1⟩] (litN 1) 0 b c (by decide) hp.good hp.run W hb ht (hot.below hl) (Utf8Tabs_below hT hl) (hM.below hl hg) (Nat.lt_of_lt_of_le hg hl.size)
  refine h.mono fun e w' ⟨v, k1, k2, k3⟩ => ?_
  obtain ⟨a9, c9, a10, c10, rfl, _⟩ := k1
  exact ⟨a9, c9, a10, c10, k2, hl.trans (k3.mono hl.size)⟩
 clear hot hT hm hM hg hp d1 d2 d3
 go_enter Tryz.func6, Tryz.ntmps6
 go_upto_region 3 with (first
  | (go_at_call 7; refine (CC.out _ (Below.refl _ _)).mono ?_; rintro e w1 ⟨b, c, rfl, hk1, hb1, ht1⟩; have HB1 := HidOf hk1; have HH1 := HidOf hb1; have HT1 := HidOf ht1; clear hk1 hb1 ht1 CC)
  | (go_at_call 9; refine (CP.out _ _ _ HB1.out HH1.out HT1.out).mono ?_; rintro e w2 ⟨a9, c9, a10, c10, rfl, hk2⟩; have HB2 := HidOf hk2; clear hk2 CP))
 obtain ⟨W3, hW3⟩ : ∃ W, W = w2.alloc (.cells #[.int .i64 1, .int .i64 2, .int .i64 1, .string ⟨#[]⟩, .string ⟨#[]⟩, .int .i64 0, .int .i64 0, .int .i64 0, .string ⟨#[]⟩, .slice a9 0 c9, .slice a10 0 c10] 36) := ⟨_, rfl⟩
 have HB3 : Hid (Below w.heap.size w W3) := by rw [hW3]; exact HB2.out.alloc HB2.out.size _
 have HP3 : Hid (PhB W3 w2.heap.size #[.int .i64 1, .int .i64 2, .int .i64 1, .string ⟨#[]⟩, .string ⟨#[]⟩, .int .i64 0, .int .i64 0, .int .i64 0, .string ⟨#[]⟩, .slice a9 0 c9, .slice a10 0 c10]) := by rw [hW3]; exact PhB.new _ _
 obtain ⟨⟨x0, x1, x2, x3, x4, x5, x6, x7, x8, x9, x10⟩, _⟩ := HP3.out.cells
 rw [← hW3]
 clear hW3
 go_wp2
 go_ret
 exact ⟨rfl, HB3.out⟩
set_option maxHeartbeats 12800000 in
theorem lawParseParens (v : Value) (n : Nat) (X : Nat → Rw) (i : Int) (w : World) (hi : -9223372036854775808 ≤ i ∧ i ≤ 9223372036854775807) (hr : RawsIs w v n X) (hf : RawsFine n X) (CR0 : ∀ (W : World) (s : ByteArray) (c : Nat), c ≤ 9 → s.size ≤ 100 → Calls Tryz.prog 12 #[.string s, .int .i64 c] W fun e w' => e = .returned (.string ⟨(Lib.repeatL s.data.toList c).toArray⟩) ∧ Below W.heap.size W w') (hot : Tab3 w) (hT : Tabs w) (hm : MaxL w) (hM : MarkTab w) (hg : 0 < w.heap.size) :
 Calls Tryz.prog 5 #[v, .int .i64 i] w fun e w' => e = .returned (.bool true) ∧ Below w.heap.size w w' := by
 obtain ⟨k, hk, hk3⟩ : ∃ k : Nat, pk i 3 = k ∧ k < 3 := by
  have := pk_range (n := i) (many := 3) (by omega)
  exact ⟨(pk i 3).toNat, by omega, by omega⟩
 have CT0 := HidOf (readTells_is w hot hT hm hM hg)
 have CQ : Hid (∀ W, Below w.heap.size w W → Calls Tryz.prog 8 #[v] W fun e w' => ∃ s, TQ s 190 ∧ e = .returned (.string s) ∧ Below w.heap.size w w') := fun W hb => (query_text que_2 que_1 (by decide) v n X W (hr.below hb) hf).mono fun e w' ⟨s, k1, k2, k3⟩ => ⟨s, k1, k2, hb.trans (k3.mono hb.size)⟩
 have CK : Hid (∀ W, Calls Tryz.prog 10 #[.int .i64 i, .int .i64 3] W fun e w' => e = .returned (.int .i64 k) ∧ W = w') := fun W => (picked_is i 3 W hi (by omega) (by omega)).mono fun e w' ⟨k1, k2⟩ => ⟨by rw [k1]; exact ret_int hk, k2.symm⟩
 obtain ⟨zl, hzl⟩ : ∃ z : ByteArray, z = ⟨(Lib.repeatL [40] k).toArray⟩ := ⟨_, rfl⟩
 obtain ⟨zr, hzr⟩ : ∃ z : ByteArray, z = ⟨(Lib.repeatL [41] k).toArray⟩ := ⟨_, rfl⟩
 have dzl : zl.data.toList = Lib.repeatL [40] k := by rw [hzl]
 have dzr : zr.data.toList = Lib.repeatL [41] k := by rw [hzr]
 have hz1 : zl.size ≤ 2 ∧ zr.size ≤ 2 := by
  rw [hzl, hzr]
  obtain rfl | rfl | rfl : k = 0 ∨ k = 1 ∨ k = 2 := by omega
  · exact ⟨by decide, by decide⟩
  · exact ⟨by decide, by decide⟩
  · exact ⟨by decide, by decide⟩
 have CL : Hid (∀ W, Calls Tryz.prog 12 #[.string ⟨#[40]⟩, .int .i64 k] W fun e w' => e = .returned (.string zl) ∧ Below W.heap.size W w') := fun W => by rw [hzl]; exact CR0 W ⟨#[40]⟩ k (by omega) (by decide)
 have CR : Hid (∀ W, Calls Tryz.prog 12 #[.string ⟨#[41]⟩, .int .i64 k] W fun e w' => e = .returned (.string zr) ∧ Below W.heap.size W w') := fun W => by rw [hzr]; exact CR0 W ⟨#[41]⟩ k (by omega) (by decide)
 have CC : Hid (∀ s, TQ s 190 → ∃ p T U, ParT T p ∧ ParT U p ∧ (∀ W, Below w.heap.size w W → Calls Tryz.prog 7 #[.string s] W fun e w' => ∃ b c, e = .returned (.tuple #[.slice (some ⟨b, 0, none⟩) T.length c, .int .i64 0, .int .i64 0]) ∧ Below W.heap.size W w' ∧ b < w'.heap.size ∧ ToksL w' b T) ∧ (∀ W, Below w.heap.size w W → Calls Tryz.prog 7 #[.string (zl ++ s ++ zr)] W fun e w' => ∃ b c, e = .returned (.tuple #[.slice (some ⟨b, 0, none⟩) U.length c, .int .i64 0, .int .i64 0]) ∧ Below W.heap.size W w' ∧ b < w'.heap.size ∧ ToksL w' b U)) := fun s hs => by
  obtain ⟨p, ⟨T, hT1, d1, d2, d3⟩, hU⟩ := tq_pars hs
  obtain ⟨U, hU1, e1, e2, e3⟩ := hU k (by omega)
  have hs2 := hs.2.2
  refine ⟨p, T, U, hT1, hU1, fun W hb => ?_, fun W hb => ?_⟩
  · have h := cut_is s W (by unfold maxLen; omega) (Utf8Tabs_below hT hb) (hm.below hb) (hM.below hb hg) (Nat.lt_of_lt_of_le hg hb.size)
    rw [d1, d2, d3] at h
    refine h.mono fun e w' ⟨v, k1, k2, k3⟩ => ?_
    obtain ⟨b, c, rfl, hbl, htl⟩ := k2.lies hT1.pos
    exact ⟨b, c, k1, k3, hbl, htl⟩
  · have hz : (zl ++ s ++ zr).size ≤ maxLen := by
     rw [ByteArray.size_append, ByteArray.size_append]
     unfold maxLen
     omega
    have hd : (zl ++ s ++ zr).data.toList = Lib.repeatL [40] k ++ (s.data.toList ++ Lib.repeatL [41] k) := by
     rw [data_appQ, data_appQ, dzl, dzr, List.append_assoc]
    have h := cut_is (zl ++ s ++ zr) W hz (Utf8Tabs_below hT hb) (hm.below hb) (hM.below hb hg) (Nat.lt_of_lt_of_le hg hb.size)
    rw [hd, e1, e2, e3] at h
    refine h.mono fun e w' ⟨v, k1, k2, k3⟩ => ?_
    obtain ⟨b, c, rfl, hbl, htl⟩ := k2.lies hU1.pos
    exact ⟨b, c, k1, k3, hbl, htl⟩
 have CP : Hid (∀ W b c T p, ParT T p → Below w.heap.size w W → b < W.heap.size → ToksL W b T → Calls Tryz.prog 9 #[.slice (some ⟨b, 0, none⟩) T.length c] W fun e w' => ∃ v, Tre w' 0 p v ∧ e = .returned (.tuple #[.agg v.toArray, .int .i64 0, .int .i64 0]) ∧ Below W.heap.size W w') := fun W b c T p hT1 hl hb ht =>
  (parse_good T p 0 b c hT1.len hT1.good hT1.run W hb ht (hot.below hl) (Utf8Tabs_below hT hl) (hM.below hl hg) (Nat.lt_of_lt_of_le hg hl.size)).mono fun e w' ⟨v, k1, k2, k3⟩ => ⟨v, k1.mono (Nat.zero_le _), k2, k3⟩
 have hz2 := hz1.1
 have hz3 := hz1.2
 clear hr hf hot hT hm hM hg hi hk hzl hzr dzl dzr CR0 hz1
 go_enter Tryz.func5, Tryz.ntmps5
 go_upto_region 5 with (first
  | (go_at_call 6; refine CT0.out.mono ?_; rintro e w1 ⟨rfl, hb1⟩; have HB1 := HidOf hb1; clear hb1 CT0)
  | (go_at_call 8; refine (CQ.out _ HB1.out).mono ?_; rintro e w2 ⟨s, hs, rfl, hb2⟩; obtain ⟨p, T, U, hT1, hU1, c1, c2⟩ := CC.out s hs; have HPT := HidOf hT1; have HPU := HidOf hU1; have C1 := HidOf c1; have C2 := HidOf c2; have hs190 := hs.2.2; have HB2 := HidOf hb2; clear hs hb2 hT1 hU1 c1 c2 CQ CC; have hq1 : ¬ 9223372036854775807 < zl.size + s.size := (by omega); have hq2 : ¬ 9223372036854775807 < zl.size + s.size + zr.size := (by omega))
  | (go_at_call 10; refine (CK.out _).mono ?_; rintro e w3 ⟨rfl, rfl⟩; clear CK))
 go_upto_region 6 with (go_at_call 7; refine (C1.out _ HB2.out).mono ?_; rintro e w4 ⟨b, c, rfl, hb4, hl4, ht4⟩; have HB4 := HidOf (HB2.out.trans (hb4.mono HB2.out.size)); have HL4 := HidOf hl4; have HT4 := HidOf ht4; clear hb4 hl4 ht4 C1 HB2)
 go_upto_region 7 with (first
  | (go_at_call_has 12 (Value.string ⟨#[40]⟩); refine (CL.out _).mono ?_; rintro e w5 ⟨rfl, hb5⟩; have HB5 := HidOf hb5; clear hb5 CL)
  | (go_at_call_has 12 (Value.string ⟨#[41]⟩); refine (CR.out _).mono ?_; rintro e w6 ⟨rfl, hb6⟩; have HB6 := HidOf (HB5.out.trans (hb6.mono HB5.out.size)); clear hb6 CR)
  | (go_at_call 7; refine (C2.out _ (HB4.out.trans (HB6.out.mono HB4.out.size))).mono ?_; rintro e w7 ⟨b', c', rfl, hb7, hl7, ht7⟩; have HB7 := HidOf (HB6.out.trans (hb7.mono HB6.out.size)); have HL7 := HidOf hl7; have HT7 := HidOf ht7; have HBW7 := HidOf (HB4.out.trans (HB7.out.mono HB4.out.size)); have HL74 : Hid (b < w7.heap.size) := Nat.lt_of_lt_of_le HL4.out HB7.out.size; have HT74 := HidOf (HT4.out.below HB7.out HL4.out); clear hb7 hl7 ht7 C2 HL4 HT4 HB4 HB7))
 go_upto_region 8 with (go_at_call 9; refine (CP.out _ _ _ _ _ HPT.out HBW7.out HL74.out HT74.out).mono ?_; rintro e w8 ⟨v8, hv8, rfl, hb8⟩; obtain ⟨k0, k1, k2, k5, k6, k7, s3, s4, s8, a9, a10, l9, c9, l10, c10, rfl⟩ := hv8.form; have HB8 := HidOf hb8; have HV8 := HidOf hv8; clear hv8 hb8)
 obtain ⟨W9, hW9⟩ : ∃ W, W = w8.alloc (.cells #[.int .i64 k0, .int .i64 k1, .int .i64 k2, .string s3, .string s4, .int .i64 k5, .int .i64 k6, .int .i64 k7, .string s8, .slice a9 l9 c9, .slice a10 l10 c10] 36) := ⟨_, rfl⟩
 have HB9 : Hid (Below w7.heap.size w7 W9) := by rw [hW9]; exact HB8.out.alloc HB8.out.size _
 have HBW9 := HidOf (HBW7.out.trans (HB9.out.mono HBW7.out.size))
 have HV9 : Hid (Tre W9 0 p [.int .i64 k0, .int .i64 k1, .int .i64 k2, .string s3, .string s4, .int .i64 k5, .int .i64 k6, .int .i64 k7, .string s8, .slice a9 l9 c9, .slice a10 l10 c10]) := by rw [hW9]; exact HV8.out.allocI _
 have HP9 : Hid (PhB W9 w8.heap.size #[.int .i64 k0, .int .i64 k1, .int .i64 k2, .string s3, .string s4, .int .i64 k5, .int .i64 k6, .int .i64 k7, .string s8, .slice a9 l9 c9, .slice a10 l10 c10]) := by rw [hW9]; exact PhB.new _ _
 have HL9 : Hid (b' < W9.heap.size) := Nat.lt_of_lt_of_le HL7.out HB9.out.size
 have HT9 := HidOf (HT7.out.below HB9.out HL7.out)
 rw [← hW9]
 clear hW9 HV8 HB8 HB9 HL7 HT7 HBW7 HL74 HT74
 go_upto_region 9 with (go_at_call 9; refine (CP.out _ _ _ _ _ HPU.out HBW9.out HL9.out HT9.out).mono ?_; rintro e w10 ⟨v10, hv10, rfl, hb10⟩; obtain ⟨j0, j1, j2, j5, j6, j7, t3, t4, t8, f9, f10, m9, d9, m10, d10, rfl⟩ := hv10.form; have HB10 := HidOf hb10; have HV10 := HidOf hv10; clear hv10 hb10)
 obtain ⟨W11, hW11⟩ : ∃ W, W = w10.alloc (.cells #[.int .i64 j0, .int .i64 j1, .int .i64 j2, .string t3, .string t4, .int .i64 j5, .int .i64 j6, .int .i64 j7, .string t8, .slice f9 m9 d9, .slice f10 m10 d10] 36) := ⟨_, rfl⟩
 have HB11 : Hid (Below W9.heap.size W9 W11) := by rw [hW11]; exact HB10.out.alloc HB10.out.size _
 have HBW11 := HidOf (HBW9.out.trans (HB11.out.mono HBW9.out.size))
 have HV11 : Hid (Tre W11 0 p [.int .i64 j0, .int .i64 j1, .int .i64 j2, .string t3, .string t4, .int .i64 j5, .int .i64 j6, .int .i64 j7, .string t8, .slice f9 m9 d9, .slice f10 m10 d10]) := by rw [hW11]; exact HV10.out.allocI _
 have HQ11 := HidOf (HV9.out.below HB11.out)
 obtain ⟨⟨x0, x1, x2, x3, x4, x5, x6, x7, x8, x9, x10⟩, _⟩ := (HP9.out.below HB11.out).cells
 obtain ⟨⟨y0, y1, y2, y3, y4, y5, y6, y7, y8, y9, y10⟩, _⟩ := (show PhB W11 w10.heap.size #[.int .i64 j0, .int .i64 j1, .int .i64 j2, .string t3, .string t4, .int .i64 j5, .int .i64 j6, .int .i64 j7, .string t8, .slice f9 m9 d9, .slice f10 m10 d10] by rw [hW11]; exact PhB.new _ _).cells
 have CS := HidOf (fun (W : World) (hb : Below W11.heap.size W11 W) => same_ok p W _ _ (HQ11.out.below hb) (HV11.out.below hb))
 rw [← hW11]
 clear hW11 HV9 HB11 HBW9 HL9 HT9 HP9 HV10 HB10 HV11 HQ11
 have hn : ¬ ((200 : Int) < (U.length : Int)) := by have := HPU.out.len; omega
 go_wp2_with (go_at_call 13; (first | refine (CS.out _ (Below.refl _ _)).mono ?_ | refine (CS.out _ (Below.refl _ _).drew).mono ?_); rintro e w12 ⟨rfl, hb12⟩; have HB12 : Hid (Below w.heap.size w w12) := (by first | exact HBW11.out.trans (hb12.mono HBW11.out.size) | exact HBW11.out.drew.trans (hb12.mono HBW11.out.drew.size)); clear hb12)
 go_ret
 exact ⟨rfl, HB12.out⟩
end Go.Proofs.YtbnlekhjgkojlaaGreatDoor
