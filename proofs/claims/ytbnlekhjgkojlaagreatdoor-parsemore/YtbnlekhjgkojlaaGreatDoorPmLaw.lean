import Derived.Test.YtbnlekhjgkojlaaGreatDoorDvF
import Derived.Test.YtbnlekhjgkojlaaGreatDoorQoQry
import Derived.Test.YtbnlekhjgkojlaaGreatDoorPoBack
import Derived.Test.YtbnlekhjgkojlaaGreatDoorLaidQ
import Derived.Test.YtbnlekhjgkojlaaGreatDoorPmClone
import Derived.Deep.AppendLies
import Derived.Laws.Concat
set_option linter.unusedVariables false
namespace Go.Proofs.YtbnlekhjgkojlaaGreatDoor
set_option maxRecDepth 100000
open Go.RowKit
theorem md_cut {X : List UInt8} {K : List Tok} (h : MdK X K) (hl : X.length ≤ 200) : cutT X = K ∧ cutP X = 0 ∧ cutE X = 0 ∧ GoodT K ∧ K.length ≤ X.length := by
 have c := h.2 [] (.inl rfl) X [] 0 (CutTo.zero X) (by simp) (by have := h.1.1; simp; omega)
 have d := c.done (by omega) (by simp)
 simp only [List.nil_append] at d
 obtain ⟨d1, d2, d3⟩ := d
 refine ⟨d1, d2, d3, fun t ht => ⟨?_, by have := h.1.2 t ht; omega⟩, h.1.1⟩
 have g := (cut_spoken (q := X) (by omega) d3).2.1
 rw [d1] at g
 exact g t ht
theorem tq_der {s : ByteArray} {n : Nat} (h : TQ s n) : ∃ K p, MdK s.data.toList K ∧ IsSg K p 21 := by
 obtain ⟨⟨d, hd, hp⟩, _⟩ := h
 obtain ⟨K, m, p, hs⟩ := po_der hp
 exact ⟨K, p, m, hs.more (by omega)⟩
theorem md_par {X : List UInt8} {K : List Tok} (h : MdK X K) : MdK ([40] ++ (X ++ [41])) ([mOp] ++ (K ++ [mCl])) := (pk10.app (h.app bg1 pk1)).mid
theorem sg_par {K : List Tok} {p : Ph} {d : Nat} (h : IsSg K p d) : ∃ q, IsSg (mOp :: (K ++ [mCl])) q (d + 3) := by
 obtain ⟨q, h⟩ := prim_sgl h
 obtain ⟨q, h⟩ := prim_sg h
 exact ⟨q, h.more (by omega)⟩
theorem ls_run {K : List Tok} {p : Ph} {d : Nat} (h : IsLs K p d) (h30 : d ≤ 30) (R : List Tok) (hf : folL (hd R) = true) (hl : (K ++ R).length ≤ 200) (pb b c : Nat) : RunT pb b c (K ++ R) 18 #[.pointer (some ⟨pb, 0, none⟩)] ⟨0, 0, 0⟩ ⟨K.length, 0, 0⟩ p := by
 have r := h.run (K ++ R) 0 0 R pb b c ⟨hl, rfl⟩ hf (by omega)
 rw [Nat.zero_add] at r
 exact r
structure MoreT (T : List Tok) : Prop where
 good : GoodT T
 len : T.length ≤ 192
 pos : 0 < T.length
 run : ∀ t : Tok, folL t = true → ∃ p, ∀ pb b c, RunT pb b c (T ++ [t]) 18 #[.pointer (some ⟨pb, 0, none⟩)] ⟨0, 0, 0⟩ ⟨T.length, 0, 0⟩ p
theorem tq_more {s : ByteArray} (h : TQ s 190) : ∃ T, MoreT T ∧ cutT (⟨#[40]⟩ ++ s ++ ⟨#[41]⟩ : ByteArray).data.toList = T ∧ cutP (⟨#[40]⟩ ++ s ++ ⟨#[41]⟩ : ByteArray).data.toList = 0 ∧ cutE (⟨#[40]⟩ ++ s ++ ⟨#[41]⟩ : ByteArray).data.toList = 0 := by
 obtain ⟨K, p, m, hs⟩ := tq_der h
 have e : (⟨#[40]⟩ ++ s ++ ⟨#[41]⟩ : ByteArray).data.toList = [40] ++ (s.data.toList ++ [41]) := by
  rw [data_appQ, data_appQ]
  simp
 have hl : ([40] ++ (s.data.toList ++ [41]) : List UInt8).length ≤ 192 := by
  have e2 : s.data.toList.length = s.size := rfl
  have := h.2.2
  simp only [List.length_append, List.length_cons, List.length_nil]
  omega
 obtain ⟨c1, c2, c3, c4, c5⟩ := md_cut (md_par m) (by omega)
 rw [e]
 obtain ⟨q, hq⟩ := sg_par hs
 obtain ⟨r, hr⟩ := ls_sg hq
 refine ⟨[mOp] ++ (K ++ [mCl]), ⟨c4, by omega, by simp, fun t ht => ⟨r, fun pb b c => ?_⟩⟩, c1, c2, c3⟩
 refine ls_run hr (by omega) [t] ht ?_ pb b c
 rw [List.length_append]
 have : (mOp :: (K ++ [mCl])).length = ([mOp] ++ (K ++ [mCl])).length := rfl
 simp only [List.length_cons, List.length_nil] at *
 omega
end Go.Proofs.YtbnlekhjgkojlaaGreatDoor
set_option linter.unusedVariables false
namespace Go.Proofs.YtbnlekhjgkojlaaGreatDoor
set_option maxRecDepth 100000
open Go.RowKit Go.WideShapes
theorem ToksOwn.liesAt {w : World} {base g n k : Nat} {L : List Tok} {t : Tok} (h : ToksOwn w base (.slice (some ⟨g, 0, none⟩) n k) (L ++ [t])) : g < w.heap.size ∧ ToksL w g (L ++ [t]) := by
 obtain ⟨b, c, e, h1, h2⟩ := h.lies (by simp)
 simp only [Value.slice.injEq, Option.some.injEq, Addr.mk.injEq, and_true] at e
 obtain ⟨rfl, _⟩ := e
 exact ⟨h1, h2⟩
def tokNum : Tok := ⟨2, ⟨#[]⟩, 0⟩
def tokPar : Tok := ⟨5, ⟨#[41]⟩, 0⟩
set_option maxHeartbeats 25600000 in
theorem lawParseMore (v : Value) (n : Nat) (X : Nat → Rw) (w : World) (hr : RawsIs w v n X) (hf : RawsFine n X) (hot : Tab3 w) (hT : Tabs w) (hm : MaxL w) (hM : MarkTab w) (hg : 0 < w.heap.size) :
 Calls Tryz.prog 4 #[v] w fun e w' => e = .returned (.bool true) ∧ Below w.heap.size w w' := by
 have CQ : Hid (Calls Tryz.prog 8 #[v] w fun e w' => ∃ s, TQ s 190 ∧ e = .returned (.string s) ∧ Below w.heap.size w w') := query_text que_2 que_1 (by decide) v n X w hr hf
 have CC : Hid (∀ s, TQ s 190 → ∃ T, MoreT T ∧ ∀ W, Below w.heap.size w W → Calls Tryz.prog 7 #[.string (⟨#[40]⟩ ++ s ++ ⟨#[41]⟩)] W fun e w' => ∃ b c, e = .returned (.tuple #[.slice (some ⟨b, 0, none⟩) T.length c, .int .i64 0, .int .i64 0]) ∧ Below w.heap.size w w' ∧ b < w'.heap.size ∧ ToksL w' b T) := fun s hs => by
  obtain ⟨T, hT1, d1, d2, d3⟩ := tq_more hs
  refine ⟨T, hT1, fun W hb => ?_⟩
  have hz : (⟨#[40]⟩ ++ s ++ ⟨#[41]⟩ : ByteArray).size ≤ maxLen := by
   have := hs.2.2
   have e1 : (⟨#[40]⟩ : ByteArray).size = 1 := rfl
   have e2 : (⟨#[41]⟩ : ByteArray).size = 1 := rfl
   rw [ByteArray.size_append, ByteArray.size_append]
   unfold maxLen
   omega
  have h := cut_is (⟨#[40]⟩ ++ s ++ ⟨#[41]⟩) W hz (Utf8Tabs_below hT hb) (hm.below hb) (hM.below hb hg) (Nat.lt_of_lt_of_le hg hb.size)
  rw [d1, d2, d3] at h
  refine h.mono fun e w' ⟨v, k1, k2, k3⟩ => ?_
  obtain ⟨b, c, rfl, hbl, htl⟩ := k2.lies hT1.pos
  exact ⟨b, c, k1, hb.trans (k3.mono hb.size), hbl, htl⟩
 have CP : Hid (∀ W b c T (t : Tok), MoreT T → folL t = true → tokF t.kind t.s t.n = 0 → t.s.size ≤ 4000 → Below w.heap.size w W → b < W.heap.size → ToksL W b (T ++ [t]) → Calls Tryz.prog 9 #[.slice (some ⟨b, 0, none⟩) (T.length + 1) c] W fun e w' => e = .returned (.tuple #[.agg #[.int .i64 0, .int .i64 0, .int .i64 0, .string ⟨#[]⟩, .string ⟨#[]⟩, .int .i64 0, .int .i64 0, .int .i64 0, .string ⟨#[]⟩, .slice none 0 0, .slice none 0 0], .int .i64 T.length, .int .i64 4]) ∧ Below W.heap.size W w') := fun W b c T t hT1 h1 h2 h3 hl hb ht => by
  obtain ⟨p, hp⟩ := hT1.run t h1
  have hlen : (T ++ [t]).length = T.length + 1 := by simp
  have h := parse_more (T ++ [t]) p 0 T.length b c (by omega) (by have := hT1.len; omega) (fun u hu => (List.mem_append.1 hu).elim (hT1.good u) (fun h => by rw [List.mem_singleton.1 h]; exact ⟨h2, h3⟩)) hp W hb ht (hot.below hl) (Utf8Tabs_below hT hl) (hM.below hl hg) (Nat.lt_of_lt_of_le hg hl.size)
  rw [hlen] at h
  exact h
 have CL : Hid (∀ W b c T, MoreT T → b < W.heap.size → ToksL W b T → Calls Tryz.prog 11 #[.slice (some ⟨b, 0, none⟩) T.length c] W fun e w' => ∃ g k, e = .returned (.slice (some ⟨g, 0, none⟩) T.length k) ∧ ToksOwn w' W.heap.size (.slice (some ⟨g, 0, none⟩) T.length k) T ∧ Below W.heap.size W w') := fun W b c T hT1 hb ht => (clone_toks b c T W ht hb hT1.pos (by have := hT1.len; omega)).mono fun e w' ⟨v, k1, k2, k3⟩ => by
  obtain ⟨g, k, rfl, h1, h2⟩ := k2.lies hT1.pos
  exact ⟨g, k, k1, k2, k3⟩
 obtain ⟨i0, hi0, hz0, hz1, hz2⟩ := info_partsK infoTok
 clear hr hf hot hT hm hM hg
 go_enter Tryz.func4, Tryz.ntmps4
 go_upto_region 2 with (first
  | (go_at_call 8; refine CQ.out.mono ?_; rintro e w1 ⟨s, hs, rfl, hb1⟩; obtain ⟨T, hT1, hT2⟩ := CC.out s hs; have HMT : Hid (MoreT T) := hT1; have CT := HidOf hT2; have hs190 := hs.2.2; have HB1 : Hid (Below w.heap.size w w1) := hb1; clear hs hb1 hT1 hT2 CQ CC; have hq1 : ¬ 9223372036854775807 < 1 + s.size := (by omega); have hq2 : ¬ 9223372036854775807 < 1 + s.size + 1 := (by omega))
  | (go_at_call 7; refine (CT.out _ HB1.out).mono ?_; rintro e w2 ⟨b, c, rfl, hk2, hb2, ht2⟩; have HBw2 : Hid (Below w.heap.size w w2) := hk2; have HHw2 := HidOf hb2; have HTw2 : Hid (ToksL w2 b T) := ht2; clear hk2 hb2 ht2 CT))
 go_upto_region 3 with (first
  | (go_at_call 11; refine (CL.out w2 b c T HMT.out HHw2.out HTw2.out).mono ?_; rintro e w3 ⟨gw3, kw3, rfl, ho, hb⟩; have HOw3 := HidOf ho; have HBw3 : Hid (Below w2.heap.size w2 w3) := hb; clear ho hb)
  | (at_builtin; refine wpList_append_lies _ rfl (.tmp 23) (.tmp 25) 24 rfl w2.heap.size 41 i0 _ 3 32 Tryz.underlying24 hi0 hz0 hz1 hz2 rfl (by decide) (.slice (some ⟨gw3, 0, none⟩) T.length kw3) T.length (tokCells T) rfl (HOw3.out.below ((Below.refl _ _).alloc (Nat.le_refl _) _)) ⟨w3.heap.size, 0, none⟩ 1 1 (tokC tokNum) rfl rfl (elemT_in tokNum) (elemT_one _) (by decide) (by have := HMT.out.len; unfold maxLen; omega) (by have := HMT.out.len; omega) (by have := HBw3.out.size; simp; omega) _ rfl ?_; intro gw4 cw4 w4 hown hgrow hat hlt; have HOw4 : Hid (ToksOwn w4 w2.heap.size (.slice (some ⟨gw4, 0, none⟩) (T.length + 1) cw4) (T ++ [tokNum])) := (by unfold ToksOwn; rw [tokCells_snoc, List.length_append, List.length_singleton]; exact hown); have HBw4 : Hid (Below w2.heap.size w2 w4) := Below.grown (HBw3.out.alloc HBw3.out.size _) hgrow (by have := HBw3.out.size; simp; omega) (fun q hq => (HOw3.out.lt q hq).1); clear hown hgrow hat hlt HOw3 HBw3)
  | (go_at_call 9; refine (CP.out w4 gw4 cw4 T tokNum HMT.out (by decide +kernel) (by decide +kernel) (by decide) (HBw2.out.trans (HBw4.out.mono HBw2.out.size)) (HOw4.out.liesAt).1 (HOw4.out.liesAt).2).mono ?_; rintro e w5 ⟨rfl, hb⟩; have HBw5 : Hid (Below w2.heap.size w2 w5) := HBw4.out.trans (hb.mono HBw4.out.size); clear hb HOw4 HBw4))
 obtain ⟨w6, hw6⟩ : ∃ W, W = w5.alloc (.cells #[.int .i64 0, .int .i64 0, .int .i64 0, .string ⟨#[]⟩, .string ⟨#[]⟩, .int .i64 0, .int .i64 0, .int .i64 0, .string ⟨#[]⟩, .slice none 0 0, .slice none 0 0] 36) := ⟨_, rfl⟩
 have HCw6 : Hid (Below w2.heap.size w2 w6) := by rw [hw6]; exact HBw5.out.alloc HBw5.out.size _
 have HBw6 : Hid (Below w.heap.size w w6) := HBw2.out.trans (HCw6.out.mono HBw2.out.size)
 have HHw6 : Hid (b < w6.heap.size) := Nat.lt_of_lt_of_le HHw2.out HCw6.out.size
 have HTw6 : Hid (ToksL w6 b T) := HTw2.out.below HCw6.out HHw2.out
 rw [← hw6]
 clear hw6 HBw5 HCw6 HBw2 HHw2 HTw2
 go_upto_region 4 with (first
  | (go_at_call 11; refine (CL.out w6 b c T HMT.out HHw6.out HTw6.out).mono ?_; rintro e w7 ⟨gw7, kw7, rfl, ho, hb⟩; have HOw7 := HidOf ho; have HBw7 : Hid (Below w6.heap.size w6 w7) := hb; clear ho hb)
  | (at_builtin; refine wpList_append_lies _ rfl (.tmp 33) (.tmp 35) 24 rfl w6.heap.size 41 i0 _ 3 32 Tryz.underlying24 hi0 hz0 hz1 hz2 rfl (by decide) (.slice (some ⟨gw7, 0, none⟩) T.length kw7) T.length (tokCells T) rfl (HOw7.out.below ((Below.refl _ _).alloc (Nat.le_refl _) _)) ⟨w7.heap.size, 0, none⟩ 1 1 (tokC tokPar) rfl rfl (elemT_in tokPar) (elemT_one _) (by decide) (by have := HMT.out.len; unfold maxLen; omega) (by have := HMT.out.len; omega) (by have := HBw7.out.size; simp; omega) _ rfl ?_; intro gw8 cw8 w8 hown hgrow hat hlt; have HOw8 : Hid (ToksOwn w8 w6.heap.size (.slice (some ⟨gw8, 0, none⟩) (T.length + 1) cw8) (T ++ [tokPar])) := (by unfold ToksOwn; rw [tokCells_snoc, List.length_append, List.length_singleton]; exact hown); have HBw8 : Hid (Below w6.heap.size w6 w8) := Below.grown (HBw7.out.alloc HBw7.out.size _) hgrow (by have := HBw7.out.size; simp; omega) (fun q hq => (HOw7.out.lt q hq).1); clear hown hgrow hat hlt HOw7 HBw7)
  | (go_at_call 9; refine (CP.out w8 gw8 cw8 T tokPar HMT.out (by decide +kernel) (by decide +kernel) (by decide) (HBw6.out.trans (HBw8.out.mono HBw6.out.size)) (HOw8.out.liesAt).1 (HOw8.out.liesAt).2).mono ?_; rintro e w9 ⟨rfl, hb⟩; have HBw9 : Hid (Below w6.heap.size w6 w9) := HBw8.out.trans (hb.mono HBw8.out.size); clear hb HOw8 HBw8))
 obtain ⟨w10, hw10⟩ : ∃ W, W = w9.alloc (.cells #[.int .i64 0, .int .i64 0, .int .i64 0, .string ⟨#[]⟩, .string ⟨#[]⟩, .int .i64 0, .int .i64 0, .int .i64 0, .string ⟨#[]⟩, .slice none 0 0, .slice none 0 0] 36) := ⟨_, rfl⟩
 have HCw10 : Hid (Below w6.heap.size w6 w10) := by rw [hw10]; exact HBw9.out.alloc HBw9.out.size _
 have HBw10 : Hid (Below w.heap.size w w10) := HBw6.out.trans (HCw10.out.mono HBw6.out.size)
 have HHw10 : Hid (b < w10.heap.size) := Nat.lt_of_lt_of_le HHw6.out HCw10.out.size
 have HTw10 : Hid (ToksL w10 b T) := HTw6.out.below HCw10.out HHw6.out
 rw [← hw10]
 clear hw10 HBw9 HCw10 HBw6 HHw6 HTw6
 have hn : ¬ ((T.length : Int) = 200) := by have := HMT.out.len; omega
 go_wp2
 go_ret
 exact ⟨rfl, HBw10.out⟩
end Go.Proofs.YtbnlekhjgkojlaaGreatDoor
