/-
  CONTRACTS of package core: what is refused of a Lit alone, and the expression of a Lit.
-/
import Derived.Test.YtcbpjgnbdpfiiaaGreatDoorLcD
set_option linter.unusedVariables false
namespace Go.Proofs.YtcbpjgnbdpfiiaaGreatDoor
set_option maxRecDepth 100000
open Go.RowKit Go.WideShapes

theorem PhAt.block {w w' : World} {b off : Nat} {k : Int} {it : It} {nm : ByteArray} {n ax tk : Int} {tn : ByteArray} {av cv : Value} (h : PhAt w b off k it nm n ax tk tn av cv) (e : w'.heap[b]? = w.heap[b]?) : PhAt w' b off k it nm n ax tk tn av cv :=
  have e : ∀ o, w'.cell? ⟨b, o, none⟩ = w.cell? ⟨b, o, none⟩ := fun o => by simp only [World.cell?, e]
  ⟨(e _).trans h.c0, (e _).trans h.c1, (e _).trans h.c2, (e _).trans h.c3, (e _).trans h.c4, (e _).trans h.c5, (e _).trans h.c6, (e _).trans h.c7, (e _).trans h.c8, (e _).trans h.c9, (e _).trans h.c10⟩
set_option maxHeartbeats 1600000 in
theorem alone_lit (lb b off : Nat) (it : It) (nm : ByteArray) (n ax tk : Int) (tn : ByteArray) (aa : Option Addr) (ac : Nat) (cv : Value) (w : World) (h : PhAt w b off 1 it nm n ax tk tn (.slice aa 0 ac) cv) (hb : b < w.heap.size) (hs : it.s.size ≤ maxLen) (hT : Tabs w) :
    Calls Tryz.prog 48 #[.pointer (some ⟨lb, 0, none⟩), .pointer (some ⟨b, off, none⟩)] w fun e w' => e = .returned (.int .i64 (litF it)) ∧ Below w.heap.size w w' := by
  have CC : Hid (∀ W, Below w.heap.size w W → Calls Tryz.prog 76 #[.agg #[.int .i64 it.kind, .int .i64 it.n, .string it.s]] W fun e w' => e = .returned (.int .i64 (litF it)) ∧ Below W.heap.size W w') := fun W hW => checkLit_is it W hs (Utf8Tabs_below hT hW)
  have CP : Hid (∀ W, Calls Tryz.prog 75 #[.int .i64 1, .int .i64 0] W fun e w' => e = .returned (.int .i64 0) ∧ w' = W) := parts_1
  obtain ⟨c0, c1, c2, c3, c4, c5, c6, c7, c8, c9, c10⟩ := h
  generalize litF it = R at *
  clear c4 c5 c6 c7 c8 c10 hs hT
  go_enter Tryz.func48, Tryz.ntmps48
  go_upto_region 1 with fail
  go_quiet ((go_at_call 75; exact Calls.quiet_of_same (CP.out _)))
  obtain ⟨W1, hW1⟩ : ∃ W, W = w.drewN nq := ⟨_, rfl⟩
  have HB1 : Hid (Below w.heap.size w W1) := by rw [hW1]; exact ⟨rfl, rfl, rfl, Nat.le_refl _, fun _ _ => rfl⟩
  rw [← hW1]
  have e0 : W1.cell? ⟨b, off, none⟩ = some (.int .i64 1) := (HB1.out.cell (p := ⟨b, off, none⟩) hb).trans c0
  have e1 : W1.cell? ⟨b, off + 1, none⟩ = some (.int .i64 it.kind) := (HB1.out.cell (p := ⟨b, off + 1, none⟩) hb).trans c1
  have e2 : W1.cell? ⟨b, off + 2, none⟩ = some (.int .i64 it.n) := (HB1.out.cell (p := ⟨b, off + 2, none⟩) hb).trans c2
  have e3 : W1.cell? ⟨b, off + 3, none⟩ = some (.string it.s) := (HB1.out.cell (p := ⟨b, off + 3, none⟩) hb).trans c3
  clear hW1 c0 c1 c2 c3 c9
  go_wp2_with (go_at_call 76; refine (CC.out W1 HB1.out).mono ?_; rintro e w2 ⟨rfl, hb2⟩; have HB2 : Hid (Below w.heap.size w w2) := HB1.out.trans (hb2.mono HB1.out.size); clear hb2)
  go_ret
  exact ⟨rfl, HB2.out⟩
set_option maxHeartbeats 1600000 in
theorem leaf_lit (lb b off : Nat) (m1 m2 m3 : Value) (p : Nat) (it : It) (nm : ByteArray) (n ax tk : Int) (tn : ByteArray) (aa : Option Addr) (ac : Nat) (cv : Value) (w : World) (hl : w.heap[lb]? = some (.cells #[m1, m2, m3, .int .i64 (p : Int), .int .i64 0] 78)) (hp : p + 1 ≤ 700) (h : PhAt w b off 1 it nm n ax tk tn (.slice aa 0 ac) cv) (hb : b < w.heap.size) (hbl : b ≠ lb) (hs : it.s.size ≤ 4000) :
    Calls Tryz.prog 54 #[.pointer (some ⟨lb, 0, none⟩), .pointer (some ⟨b, off, none⟩)] w fun e w' => e = .returned (.agg #[.int .i64 1, .int .i64 it.kind, .int .i64 it.n, .string it.s, .string ⟨#[]⟩, .string ⟨#[]⟩, .int .i64 0, .int .i64 0, .int .i64 0, .string ⟨#[]⟩, .slice none 0 0]) ∧ Kp lb m1 m2 m3 (p + 1) w w' := by
  have HL := hidC hl
  obtain ⟨_, _, _, _, _, _, l6⟩ := bk5 hl
  have CM : Hid (∀ W, W.heap[lb]? = some (.cells #[m1, m2, m3, .int .i64 (p : Int), .int .i64 0] 78) → Calls Tryz.prog 102 _ W _) := fun W hW => lit_is lb m1 m2 m3 p it W hW hp hs
  obtain ⟨c0, c1, c2, c3, c4, c5, c6, c7, c8, c9, c10⟩ := h
  clear hl hp c4 c5 c6 c7 c8 c9 c10
  unfold Kp at *
  generalize ((p + 1 : Nat) : Int) = q at *
  go_enter Tryz.func54, Tryz.ntmps54
  go_wp2_with (go_at_call 102; refine (CM.out _ ?_).mono ?_; (· exact aOld HL.out); rintro e w1 ⟨rfl, hl1, ho1, hb1⟩; have HL1 := hidC hl1; have HZ1 := hidC ((ho1 (w.heap.size) (by simp) (by omega)).trans (aNew rfl)); have HO1 : Hid (∀ b, b < w.heap.size → b ≠ lb → w1.heap[b]? = w.heap[b]?) := (fun b hb hne => (by obtain ⟨o, ho⟩ : ∃ o, w.heap[b]? = some o := ⟨_, Array.getElem?_eq_getElem hb⟩; rw [ho]; exact (ho1 b (by simp; omega) hne).trans (aOld ho))); have HB1 : Hid (Below lb w w1) := Below.trans (Below.alloc (Below.refl lb w) (Nat.le_of_lt l6) _) hb1; obtain ⟨z0, z1, z2, z3, z4, z5, z6, z7, z8, z9, z10, z11, z12⟩ := bk11 HZ1.out; clear hl1 ho1 hb1)
  obtain ⟨W2, hW2⟩ : ∃ W, W = (((((((((((w1).setCell ⟨w.heap.size, 0, none⟩ (.int .i64 1)).setCell ⟨w.heap.size, 1, none⟩ (.int .i64 it.kind)).setCell ⟨w.heap.size, 2, none⟩ (.int .i64 it.n)).setCell ⟨w.heap.size, 3, none⟩ (.string it.s)).setCell ⟨w.heap.size, 4, none⟩ (.string ⟨#[]⟩)).setCell ⟨w.heap.size, 5, none⟩ (.string ⟨#[]⟩)).setCell ⟨w.heap.size, 6, none⟩ (.int .i64 0)).setCell ⟨w.heap.size, 7, none⟩ (.int .i64 0)).setCell ⟨w.heap.size, 8, none⟩ (.int .i64 0)).setCell ⟨w.heap.size, 9, none⟩ (.string ⟨#[]⟩)).setCell ⟨w.heap.size, 10, none⟩ (.slice none 0 0) := ⟨_, rfl⟩
  have hW3 : W2 = putL w1 (w.heap.size) 0 [.int .i64 1, .int .i64 it.kind, .int .i64 it.n, .string it.s, .string ⟨#[]⟩, .string ⟨#[]⟩, .int .i64 0, .int .i64 0, .int .i64 0, .string ⟨#[]⟩, .slice none 0 0] := hW2
  have HZ2 : Hid (W2.heap[w.heap.size]? = some (.cells #[.int .i64 1, .int .i64 it.kind, .int .i64 it.n, .string it.s, .string ⟨#[]⟩, .string ⟨#[]⟩, .int .i64 0, .int .i64 0, .int .i64 0, .string ⟨#[]⟩, .slice none 0 0] 43)) := by rw [hW3]; exact putL_same HZ1.out _ rfl
  have HL2 : Hid (W2.heap[lb]? = some (.cells #[m1, m2, m3, .int .i64 q, .int .i64 0] 78)) := by rw [hW3]; exact (putL_other (by omega) _ _ _).trans HL1.out
  have HO2 : Hid (∀ c, c < w.heap.size → c ≠ lb → W2.heap[c]? = w.heap[c]?) := by rw [hW3]; exact fun c h1 h2 => (putL_other (by omega) _ _ _).trans (HO1.out c h1 h2)
  have HB2 : Hid (Below lb w W2) := by rw [hW3]; exact putL_below (B := lb) (by omega) _ _ _ HB1.out
  rw [← hW2]
  clear hW2 hW3
  obtain ⟨y0, y1, y2, y3, y4, y5, y6, y7, y8, y9, y10, _, _⟩ := bk11 HZ2.out
  exact bodyPost_ret (v := .agg #[.int .i64 1, .int .i64 it.kind, .int .i64 it.n, .string it.s, .string ⟨#[]⟩, .string ⟨#[]⟩, .int .i64 0, .int .i64 0, .int .i64 0, .string ⟨#[]⟩, .slice none 0 0]) (by simp [results, Tryz.results54, go_sem, y0, y1, y2, y3, y4, y5, y6, y7, y8, y9, y10]) rfl ⟨rfl, HL2.out, HO2.out, HB2.out⟩
set_option maxHeartbeats 3200000 in
theorem expr_lit (lb b off : Nat) (m1 m2 m3 : Value) (p : Nat) (it : It) (nm : ByteArray) (n ax tk : Int) (tn : ByteArray) (aa : Option Addr) (ac : Nat) (cv : Value) (w : World) (hl : w.heap[lb]? = some (.cells #[m1, m2, m3, .int .i64 (p : Int), .int .i64 0] 78)) (hp : p + 1 ≤ 700) (h : PhAt w b off 1 it nm n ax tk tn (.slice aa 0 ac) cv) (hb : b < w.heap.size) (hbl : b ≠ lb) (hs : it.s.size ≤ 4000) (hT : Tabs w) (hg : litF it = 0) :
    Calls Tryz.prog 25 #[.pointer (some ⟨lb, 0, none⟩), .pointer (some ⟨b, off, none⟩)] w fun e w' => e = .returned (.agg #[.int .i64 1, .int .i64 it.kind, .int .i64 it.n, .string it.s, .string ⟨#[]⟩, .string ⟨#[]⟩, .int .i64 0, .int .i64 0, .int .i64 0, .string ⟨#[]⟩, .slice none 0 0]) ∧ Kp lb m1 m2 m3 (p + 1) w w' := by
  have HL := hidC hl
  have HP := hidC h
  obtain ⟨_, _, _, _, l4, l5, l6⟩ := bk5 hl
  have CA : Hid (∀ W, Below w.heap.size w W → Calls Tryz.prog 48 #[.pointer (some ⟨lb, 0, none⟩), .pointer (some ⟨b, off, none⟩)] W fun e w' => e = .returned (.int .i64 0) ∧ Below W.heap.size W w') := fun W hW => hg ▸ alone_lit lb b off it nm n ax tk tn aa ac cv W (h.below hW hb) (Nat.lt_of_lt_of_le hb hW.size) (Nat.le_trans hs (by decide)) (Utf8Tabs_below hT hW)
  have CM : Hid (∀ W, W.heap[lb]? = some (.cells #[m1, m2, m3, .int .i64 (p : Int), .int .i64 0] 78) → PhAt W b off 1 it nm n ax tk tn (.slice aa 0 ac) cv → b < W.heap.size → Calls Tryz.prog 54 _ W _) := fun W hW hP hB => leaf_lit lb b off m1 m2 m3 p it nm n ax tk tn aa ac cv W hW hp hP hB hbl hs
  clear h hl hp hT hg
  unfold Kp at *
  generalize ((p + 1 : Nat) : Int) = q at *
  go_enter Tryz.func25, Tryz.ntmps25
  go_upto_region 3 with (go_at_call 48; refine (CA.out _ ?_).mono ?_; (· exact (Below.refl _ _).alloc (Nat.le_refl _) _); rintro e w1 ⟨rfl, hb1⟩; have HB1 : Hid (Below w.heap.size w w1) := Below.trans ((Below.refl _ _).alloc (Nat.le_refl _) _) (hb1.mono (by simp)); have HL1 := hidC (blC HB1.out l6 HL.out); have HZ1 := hidC ((hb1.block w.heap.size (by simp)).trans (aNew rfl)); obtain ⟨_, _, _, _, m4, m5, m6⟩ := bk5 HL1.out; have hz1 := HB1.out.size; clear hb1)
  obtain ⟨W1, hW1⟩ : ∃ W, W = w1.setCell ⟨lb, 4, none⟩ (.int .i64 0) := ⟨_, rfl⟩
  rw [← hW1]
  have HL2 : Hid (W1.heap[lb]? = some (.cells #[m1, m2, m3, .int .i64 (p : Int), .int .i64 0] 78)) := by rw [hW1]; exact heap_set_same HL1.out 4 _
  have HR2 : Hid (W1.heap[w.heap.size]? = some (.cells #[.int .i64 0, .int .i64 0, .int .i64 0, .string ⟨#[]⟩, .string ⟨#[]⟩, .string ⟨#[]⟩, .int .i64 0, .int .i64 0, .int .i64 0, .string ⟨#[]⟩, .slice none 0 0] 43)) := by rw [hW1]; exact sOth HZ1.out (by omega)
  have HO2 : Hid (∀ c, c < w.heap.size → c ≠ lb → W1.heap[c]? = w.heap[c]?) := by rw [hW1]; exact fun c h1 h2 => (Below.heap_setCell _ _ _ _ h2).trans (HB1.out.block c h1)
  have HB2 : Hid (Below lb w W1) := by rw [hW1]; exact Below.setCell (Below.mono HB1.out (Nat.le_of_lt l6)) (Nat.le_refl lb) _
  have HP2 : Hid (PhAt W1 b off 1 it nm n ax tk tn (.slice aa 0 ac) cv) := HP.out.block (HO2.out b hb hbl)
  have hb2 : b < W1.heap.size := Nat.lt_of_lt_of_le hb HB2.out.size
  have hz2 : w.heap.size < W1.heap.size := (Array.getElem?_eq_some_iff.1 HR2.out).1
  obtain ⟨_, _, _, _, l4', _, _⟩ := bk5 HL2.out
  obtain ⟨c0, _, _, _, _, _, _, _, _, _, _⟩ := HP2.out
  clear hW1 HL1 HZ1 HB1 CA m4 m5 m6 l4 l5 hz1 HL HP
  go_wp2_with (go_at_call 54; refine (CM.out _ HL2.out HP2.out hb2).mono ?_; rintro e w3 ⟨rfl, hl1, ho1, hb1⟩; have HL1 := hidC hl1; have HZ1 := hidC ((ho1 (w.heap.size) hz2 (by omega)).trans HR2.out); have HO1 : Hid (∀ b, b < w.heap.size → b ≠ lb → w3.heap[b]? = w.heap[b]?) := (fun b hb hne => (ho1 b (by omega) hne).trans (HO2.out b hb hne)); have HB1 : Hid (Below lb w w3) := HB2.out.trans hb1; obtain ⟨z0, z1, z2, z3, z4, z5, z6, z7, z8, z9, z10, z11, z12⟩ := bk11 HZ1.out; clear hl1 ho1 hb1 HL2 HR2 HO2 HB2 HP2)
  obtain ⟨W2, hW2⟩ : ∃ W, W = (((((((((((w3).setCell ⟨w.heap.size, 0, none⟩ (.int .i64 1)).setCell ⟨w.heap.size, 1, none⟩ (.int .i64 it.kind)).setCell ⟨w.heap.size, 2, none⟩ (.int .i64 it.n)).setCell ⟨w.heap.size, 3, none⟩ (.string it.s)).setCell ⟨w.heap.size, 4, none⟩ (.string ⟨#[]⟩)).setCell ⟨w.heap.size, 5, none⟩ (.string ⟨#[]⟩)).setCell ⟨w.heap.size, 6, none⟩ (.int .i64 0)).setCell ⟨w.heap.size, 7, none⟩ (.int .i64 0)).setCell ⟨w.heap.size, 8, none⟩ (.int .i64 0)).setCell ⟨w.heap.size, 9, none⟩ (.string ⟨#[]⟩)).setCell ⟨w.heap.size, 10, none⟩ (.slice none 0 0) := ⟨_, rfl⟩
  have hW3 : W2 = putL w3 (w.heap.size) 0 [.int .i64 1, .int .i64 it.kind, .int .i64 it.n, .string it.s, .string ⟨#[]⟩, .string ⟨#[]⟩, .int .i64 0, .int .i64 0, .int .i64 0, .string ⟨#[]⟩, .slice none 0 0] := hW2
  have HZ2 : Hid (W2.heap[w.heap.size]? = some (.cells #[.int .i64 1, .int .i64 it.kind, .int .i64 it.n, .string it.s, .string ⟨#[]⟩, .string ⟨#[]⟩, .int .i64 0, .int .i64 0, .int .i64 0, .string ⟨#[]⟩, .slice none 0 0] 43)) := by rw [hW3]; exact putL_same HZ1.out _ rfl
  have HL2 : Hid (W2.heap[lb]? = some (.cells #[m1, m2, m3, .int .i64 q, .int .i64 0] 78)) := by rw [hW3]; exact (putL_other (by omega) _ _ _).trans HL1.out
  have HO2 : Hid (∀ c, c < w.heap.size → c ≠ lb → W2.heap[c]? = w.heap[c]?) := by rw [hW3]; exact fun c h1 h2 => (putL_other (by omega) _ _ _).trans (HO1.out c h1 h2)
  have HB2 : Hid (Below lb w W2) := by rw [hW3]; exact putL_below (B := lb) (by omega) _ _ _ HB1.out
  rw [← hW2]
  clear hW2 hW3
  obtain ⟨y0, y1, y2, y3, y4, y5, y6, y7, y8, y9, y10, _, _⟩ := bk11 HZ2.out
  exact bodyPost_ret (v := .agg #[.int .i64 1, .int .i64 it.kind, .int .i64 it.n, .string it.s, .string ⟨#[]⟩, .string ⟨#[]⟩, .int .i64 0, .int .i64 0, .int .i64 0, .string ⟨#[]⟩, .slice none 0 0]) (by simp [results, Tryz.results25, go_sem, y0, y1, y2, y3, y4, y5, y6, y7, y8, y9, y10]) rfl ⟨rfl, HL2.out, HO2.out, HB2.out⟩
end Go.Proofs.YtcbpjgnbdpfiiaaGreatDoor
