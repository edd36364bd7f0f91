/-
  THE LIBRARY's slices.Backward over the clauses of a lowering: its iterator's contract.
-/
import Derived.Test.YtcbpjgnbdpfiiaaGreatDoorLcD
import Derived.Deep.RegionHeld3
import Derived.Test.YtcbpjgnbdpfiiaaGreatDoorPtCall
import Derived.Defers
import Derived.RangeFuncNested
import Derived.RangeFuncBound
import Derived.RangeFuncCalls
import Derived.RangeFuncLeaves
import Derived.Shelf.Abstract
import Derived.Shelf.RegionOpen
import Derived.WalkKit
import Derived.OwnWalkIn
import Derived.TacticsInMore
import Derived.LoopNIn
import Derived.LoopIn
set_option linter.unusedVariables false
namespace Go.Proofs.YtcbpjgnbdpfiiaaGreatDoor
set_option maxRecDepth 100000
open Go.RowKit Go.WideShapes

theorem PhAt.block {w w' : World} {b off : Nat} {k : Int} {it : It} {nm : ByteArray} {n ax tk : Int} {tn : ByteArray} {av cv : Value} (h : PhAt w b off k it nm n ax tk tn av cv) (e : w'.heap[b]? = w.heap[b]?) : PhAt w' b off k it nm n ax tk tn av cv :=
  have e : ∀ o, w'.cell? ⟨b, o, none⟩ = w.cell? ⟨b, o, none⟩ := fun o => by simp only [World.cell?, e]
  ⟨(e _).trans h.c0, (e _).trans h.c1, (e _).trans h.c2, (e _).trans h.c3, (e _).trans h.c4, (e _).trans h.c5, (e _).trans h.c6, (e _).trans h.c7, (e _).trans h.c8, (e _).trans h.c9, (e _).trans h.c10⟩
set_option maxHeartbeats 1600000 in
theorem alone_lit (lb b off : Nat) (it : It) (nm : ByteArray) (n ax tk : Int) (tn : ByteArray) (aa : Option Addr) (ac : Nat) (cv : Value) (w : World) (h : PhAt w b off 1 it nm n ax tk tn (.slice aa 0 ac) cv) (hb : b < w.heap.size) (hs : it.s.size ≤ maxLen) (hT : Tabs w) :
    Calls Tryz.prog 48 #[.pointer (some ⟨lb, 0, none⟩), .pointer (some ⟨b, off, none⟩)] w fun e w' => e = .returned (.int .i64 (litF it)) ∧ Below w.heap.size w w' := by
  have CC : Hid (∀ W, Below w.heap.size w W → Calls Tryz.prog 76 #[.agg #[.int .i64 it.kind, .int .i64 it.n, .string it.s]] W fun e w' => e = .returned (.int .i64 (litF it)) ∧ Below W.heap.size W w') := fun W hW => checkLit_is it W hs (Utf8Tabs_below hT hW)
  have CP : Hid (∀ W, Calls Tryz.prog 75 #[.int .i64 1, .int .i64 0] W fun e w' => e = .returned (.int .i64 0) ∧ w' = W) := parts_1
  obtain ⟨c0, c1, c2, c3, c4, c5, c6, c7, c8, c9, c10⟩ := h
  generalize litF it = R at *
  clear c4 c5 c6 c7 c8 c10 hs hT
  go_enter Tryz.func48, Tryz.ntmps48
  go_upto_region 1 with fail
  go_quiet ((go_at_call 75; exact Calls.quiet_of_same (CP.out _)))
  obtain ⟨W1, hW1⟩ : ∃ W, W = w.drewN nq := ⟨_, rfl⟩
  have HB1 : Hid (Below w.heap.size w W1) := by rw [hW1]; exact ⟨rfl, rfl, rfl, Nat.le_refl _, fun _ _ => rfl⟩
  rw [← hW1]
  have e0 : W1.cell? ⟨b, off, none⟩ = some (.int .i64 1) := (HB1.out.cell (p := ⟨b, off, none⟩) hb).trans c0
  have e1 : W1.cell? ⟨b, off + 1, none⟩ = some (.int .i64 it.kind) := (HB1.out.cell (p := ⟨b, off + 1, none⟩) hb).trans c1
  have e2 : W1.cell? ⟨b, off + 2, none⟩ = some (.int .i64 it.n) := (HB1.out.cell (p := ⟨b, off + 2, none⟩) hb).trans c2
  have e3 : W1.cell? ⟨b, off + 3, none⟩ = some (.string it.s) := (HB1.out.cell (p := ⟨b, off + 3, none⟩) hb).trans c3
  clear hW1 c0 c1 c2 c3 c9
  go_wp2_with (go_at_call 76; refine (CC.out W1 HB1.out).mono ?_; rintro e w2 ⟨rfl, hb2⟩; have HB2 : Hid (Below w.heap.size w w2) := HB1.out.trans (hb2.mono HB1.out.size); clear hb2)
  go_ret
  exact ⟨rfl, HB2.out⟩
set_option maxHeartbeats 1600000 in
theorem leaf_lit (lb b off : Nat) (m1 m2 m3 : Value) (p : Nat) (it : It) (nm : ByteArray) (n ax tk : Int) (tn : ByteArray) (aa : Option Addr) (ac : Nat) (cv : Value) (w : World) (hl : w.heap[lb]? = some (.cells #[m1, m2, m3, .int .i64 (p : Int), .int .i64 0] 78)) (hp : p + 1 ≤ 700) (h : PhAt w b off 1 it nm n ax tk tn (.slice aa 0 ac) cv) (hb : b < w.heap.size) (hbl : b ≠ lb) (hs : it.s.size ≤ 4000) :
    Calls Tryz.prog 54 #[.pointer (some ⟨lb, 0, none⟩), .pointer (some ⟨b, off, none⟩)] w fun e w' => e = .returned (.agg #[.int .i64 1, .int .i64 it.kind, .int .i64 it.n, .string it.s, .string ⟨#[]⟩, .string ⟨#[]⟩, .int .i64 0, .int .i64 0, .int .i64 0, .string ⟨#[]⟩, .slice none 0 0]) ∧ Kp lb m1 m2 m3 (p + 1) w w' := by
  have HL := hidC hl
  obtain ⟨_, _, _, _, _, _, l6⟩ := bk5 hl
  have CM : Hid (∀ W, W.heap[lb]? = some (.cells #[m1, m2, m3, .int .i64 (p : Int), .int .i64 0] 78) → Calls Tryz.prog 102 _ W _) := fun W hW => lit_is lb m1 m2 m3 p it W hW hp hs
  obtain ⟨c0, c1, c2, c3, c4, c5, c6, c7, c8, c9, c10⟩ := h
  clear hl hp c4 c5 c6 c7 c8 c9 c10
  unfold Kp at *
  generalize ((p + 1 : Nat) : Int) = q at *
  go_enter Tryz.func54, Tryz.ntmps54
  go_wp2_with (go_at_call 102; refine (CM.out _ ?_).mono ?_; (· exact aOld HL.out); rintro e w1 ⟨rfl, hl1, ho1, hb1⟩; have HL1 := hidC hl1; have HZ1 := hidC ((ho1 (w.heap.size) (by simp) (by omega)).trans (aNew rfl)); have HO1 : Hid (∀ b, b < w.heap.size → b ≠ lb → w1.heap[b]? = w.heap[b]?) := (fun b hb hne => (by obtain ⟨o, ho⟩ : ∃ o, w.heap[b]? = some o := ⟨_, Array.getElem?_eq_getElem hb⟩; rw [ho]; exact (ho1 b (by simp; omega) hne).trans (aOld ho))); have HB1 : Hid (Below lb w w1) := Below.trans (Below.alloc (Below.refl lb w) (Nat.le_of_lt l6) _) hb1; obtain ⟨z0, z1, z2, z3, z4, z5, z6, z7, z8, z9, z10, z11, z12⟩ := bk11 HZ1.out; clear hl1 ho1 hb1)
  obtain ⟨W2, hW2⟩ : ∃ W, W = (((((((((((w1).setCell ⟨w.heap.size, 0, none⟩ (.int .i64 1)).setCell ⟨w.heap.size, 1, none⟩ (.int .i64 it.kind)).setCell ⟨w.heap.size, 2, none⟩ (.int .i64 it.n)).setCell ⟨w.heap.size, 3, none⟩ (.string it.s)).setCell ⟨w.heap.size, 4, none⟩ (.string ⟨#[]⟩)).setCell ⟨w.heap.size, 5, none⟩ (.string ⟨#[]⟩)).setCell ⟨w.heap.size, 6, none⟩ (.int .i64 0)).setCell ⟨w.heap.size, 7, none⟩ (.int .i64 0)).setCell ⟨w.heap.size, 8, none⟩ (.int .i64 0)).setCell ⟨w.heap.size, 9, none⟩ (.string ⟨#[]⟩)).setCell ⟨w.heap.size, 10, none⟩ (.slice none 0 0) := ⟨_, rfl⟩
  have hW3 : W2 = putL w1 (w.heap.size) 0 [.int .i64 1, .int .i64 it.kind, .int .i64 it.n, .string it.s, .string ⟨#[]⟩, .string ⟨#[]⟩, .int .i64 0, .int .i64 0, .int .i64 0, .string ⟨#[]⟩, .slice none 0 0] := hW2
  have HZ2 : Hid (W2.heap[w.heap.size]? = some (.cells #[.int .i64 1, .int .i64 it.kind, .int .i64 it.n, .string it.s, .string ⟨#[]⟩, .string ⟨#[]⟩, .int .i64 0, .int .i64 0, .int .i64 0, .string ⟨#[]⟩, .slice none 0 0] 43)) := by rw [hW3]; exact putL_same HZ1.out _ rfl
  have HL2 : Hid (W2.heap[lb]? = some (.cells #[m1, m2, m3, .int .i64 q, .int .i64 0] 78)) := by rw [hW3]; exact (putL_other (by omega) _ _ _).trans HL1.out
  have HO2 : Hid (∀ c, c < w.heap.size → c ≠ lb → W2.heap[c]? = w.heap[c]?) := by rw [hW3]; exact fun c h1 h2 => (putL_other (by omega) _ _ _).trans (HO1.out c h1 h2)
  have HB2 : Hid (Below lb w W2) := by rw [hW3]; exact putL_below (B := lb) (by omega) _ _ _ HB1.out
  rw [← hW2]
  clear hW2 hW3
  obtain ⟨y0, y1, y2, y3, y4, y5, y6, y7, y8, y9, y10, _, _⟩ := bk11 HZ2.out
  exact bodyPost_ret (v := .agg #[.int .i64 1, .int .i64 it.kind, .int .i64 it.n, .string it.s, .string ⟨#[]⟩, .string ⟨#[]⟩, .int .i64 0, .int .i64 0, .int .i64 0, .string ⟨#[]⟩, .slice none 0 0]) (by simp [results, Tryz.results54, go_sem, y0, y1, y2, y3, y4, y5, y6, y7, y8, y9, y10]) rfl ⟨rfl, HL2.out, HO2.out, HB2.out⟩
set_option maxHeartbeats 3200000 in
theorem expr_lit (lb b off : Nat) (m1 m2 m3 : Value) (p : Nat) (it : It) (nm : ByteArray) (n ax tk : Int) (tn : ByteArray) (aa : Option Addr) (ac : Nat) (cv : Value) (w : World) (hl : w.heap[lb]? = some (.cells #[m1, m2, m3, .int .i64 (p : Int), .int .i64 0] 78)) (hp : p + 1 ≤ 700) (h : PhAt w b off 1 it nm n ax tk tn (.slice aa 0 ac) cv) (hb : b < w.heap.size) (hbl : b ≠ lb) (hs : it.s.size ≤ 4000) (hT : Tabs w) (hg : litF it = 0) :
    Calls Tryz.prog 25 #[.pointer (some ⟨lb, 0, none⟩), .pointer (some ⟨b, off, none⟩)] w fun e w' => e = .returned (.agg #[.int .i64 1, .int .i64 it.kind, .int .i64 it.n, .string it.s, .string ⟨#[]⟩, .string ⟨#[]⟩, .int .i64 0, .int .i64 0, .int .i64 0, .string ⟨#[]⟩, .slice none 0 0]) ∧ Kp lb m1 m2 m3 (p + 1) w w' := by
  have HL := hidC hl
  have HP := hidC h
  obtain ⟨_, _, _, _, l4, l5, l6⟩ := bk5 hl
  have CA : Hid (∀ W, Below w.heap.size w W → Calls Tryz.prog 48 #[.pointer (some ⟨lb, 0, none⟩), .pointer (some ⟨b, off, none⟩)] W fun e w' => e = .returned (.int .i64 0) ∧ Below W.heap.size W w') := fun W hW => hg ▸ alone_lit lb b off it nm n ax tk tn aa ac cv W (h.below hW hb) (Nat.lt_of_lt_of_le hb hW.size) (Nat.le_trans hs (by decide)) (Utf8Tabs_below hT hW)
  have CM : Hid (∀ W, W.heap[lb]? = some (.cells #[m1, m2, m3, .int .i64 (p : Int), .int .i64 0] 78) → PhAt W b off 1 it nm n ax tk tn (.slice aa 0 ac) cv → b < W.heap.size → Calls Tryz.prog 54 _ W _) := fun W hW hP hB => leaf_lit lb b off m1 m2 m3 p it nm n ax tk tn aa ac cv W hW hp hP hB hbl hs
  clear h hl hp hT hg
  unfold Kp at *
  generalize ((p + 1 : Nat) : Int) = q at *
  go_enter Tryz.func25, Tryz.ntmps25
  go_upto_region 3 with (go_at_call 48; refine (CA.out _ ?_).mono ?_; (· exact (Below.refl _ _).alloc (Nat.le_refl _) _); rintro e w1 ⟨rfl, hb1⟩; have HB1 : Hid (Below w.heap.size w w1) := Below.trans ((Below.refl _ _).alloc (Nat.le_refl _) _) (hb1.mono (by simp)); have HL1 := hidC (blC HB1.out l6 HL.out); have HZ1 := hidC ((hb1.block w.heap.size (by simp)).trans (aNew rfl)); obtain ⟨_, _, _, _, m4, m5, m6⟩ := bk5 HL1.out; have hz1 := HB1.out.size; clear hb1)
  obtain ⟨W1, hW1⟩ : ∃ W, W = w1.setCell ⟨lb, 4, none⟩ (.int .i64 0) := ⟨_, rfl⟩
  rw [← hW1]
  have HL2 : Hid (W1.heap[lb]? = some (.cells #[m1, m2, m3, .int .i64 (p : Int), .int .i64 0] 78)) := by rw [hW1]; exact heap_set_same HL1.out 4 _
  have HR2 : Hid (W1.heap[w.heap.size]? = some (.cells #[.int .i64 0, .int .i64 0, .int .i64 0, .string ⟨#[]⟩, .string ⟨#[]⟩, .string ⟨#[]⟩, .int .i64 0, .int .i64 0, .int .i64 0, .string ⟨#[]⟩, .slice none 0 0] 43)) := by rw [hW1]; exact sOth HZ1.out (by omega)
  have HO2 : Hid (∀ c, c < w.heap.size → c ≠ lb → W1.heap[c]? = w.heap[c]?) := by rw [hW1]; exact fun c h1 h2 => (Below.heap_setCell _ _ _ _ h2).trans (HB1.out.block c h1)
  have HB2 : Hid (Below lb w W1) := by rw [hW1]; exact Below.setCell (Below.mono HB1.out (Nat.le_of_lt l6)) (Nat.le_refl lb) _
  have HP2 : Hid (PhAt W1 b off 1 it nm n ax tk tn (.slice aa 0 ac) cv) := HP.out.block (HO2.out b hb hbl)
  have hb2 : b < W1.heap.size := Nat.lt_of_lt_of_le hb HB2.out.size
  have hz2 : w.heap.size < W1.heap.size := (Array.getElem?_eq_some_iff.1 HR2.out).1
  obtain ⟨_, _, _, _, l4', _, _⟩ := bk5 HL2.out
  obtain ⟨c0, _, _, _, _, _, _, _, _, _, _⟩ := HP2.out
  clear hW1 HL1 HZ1 HB1 CA m4 m5 m6 l4 l5 hz1 HL HP
  go_wp2_with (go_at_call 54; refine (CM.out _ HL2.out HP2.out hb2).mono ?_; rintro e w3 ⟨rfl, hl1, ho1, hb1⟩; have HL1 := hidC hl1; have HZ1 := hidC ((ho1 (w.heap.size) hz2 (by omega)).trans HR2.out); have HO1 : Hid (∀ b, b < w.heap.size → b ≠ lb → w3.heap[b]? = w.heap[b]?) := (fun b hb hne => (ho1 b (by omega) hne).trans (HO2.out b hb hne)); have HB1 : Hid (Below lb w w3) := HB2.out.trans hb1; obtain ⟨z0, z1, z2, z3, z4, z5, z6, z7, z8, z9, z10, z11, z12⟩ := bk11 HZ1.out; clear hl1 ho1 hb1 HL2 HR2 HO2 HB2 HP2)
  obtain ⟨W2, hW2⟩ : ∃ W, W = (((((((((((w3).setCell ⟨w.heap.size, 0, none⟩ (.int .i64 1)).setCell ⟨w.heap.size, 1, none⟩ (.int .i64 it.kind)).setCell ⟨w.heap.size, 2, none⟩ (.int .i64 it.n)).setCell ⟨w.heap.size, 3, none⟩ (.string it.s)).setCell ⟨w.heap.size, 4, none⟩ (.string ⟨#[]⟩)).setCell ⟨w.heap.size, 5, none⟩ (.string ⟨#[]⟩)).setCell ⟨w.heap.size, 6, none⟩ (.int .i64 0)).setCell ⟨w.heap.size, 7, none⟩ (.int .i64 0)).setCell ⟨w.heap.size, 8, none⟩ (.int .i64 0)).setCell ⟨w.heap.size, 9, none⟩ (.string ⟨#[]⟩)).setCell ⟨w.heap.size, 10, none⟩ (.slice none 0 0) := ⟨_, rfl⟩
  have hW3 : W2 = putL w3 (w.heap.size) 0 [.int .i64 1, .int .i64 it.kind, .int .i64 it.n, .string it.s, .string ⟨#[]⟩, .string ⟨#[]⟩, .int .i64 0, .int .i64 0, .int .i64 0, .string ⟨#[]⟩, .slice none 0 0] := hW2
  have HZ2 : Hid (W2.heap[w.heap.size]? = some (.cells #[.int .i64 1, .int .i64 it.kind, .int .i64 it.n, .string it.s, .string ⟨#[]⟩, .string ⟨#[]⟩, .int .i64 0, .int .i64 0, .int .i64 0, .string ⟨#[]⟩, .slice none 0 0] 43)) := by rw [hW3]; exact putL_same HZ1.out _ rfl
  have HL2 : Hid (W2.heap[lb]? = some (.cells #[m1, m2, m3, .int .i64 q, .int .i64 0] 78)) := by rw [hW3]; exact (putL_other (by omega) _ _ _).trans HL1.out
  have HO2 : Hid (∀ c, c < w.heap.size → c ≠ lb → W2.heap[c]? = w.heap[c]?) := by rw [hW3]; exact fun c h1 h2 => (putL_other (by omega) _ _ _).trans (HO1.out c h1 h2)
  have HB2 : Hid (Below lb w W2) := by rw [hW3]; exact putL_below (B := lb) (by omega) _ _ _ HB1.out
  rw [← hW2]
  clear hW2 hW3
  obtain ⟨y0, y1, y2, y3, y4, y5, y6, y7, y8, y9, y10, _, _⟩ := bk11 HZ2.out
  exact bodyPost_ret (v := .agg #[.int .i64 1, .int .i64 it.kind, .int .i64 it.n, .string it.s, .string ⟨#[]⟩, .string ⟨#[]⟩, .int .i64 0, .int .i64 0, .int .i64 0, .string ⟨#[]⟩, .slice none 0 0]) (by simp [results, Tryz.results25, go_sem, y0, y1, y2, y3, y4, y5, y6, y7, y8, y9, y10]) rfl ⟨rfl, HL2.out, HO2.out, HB2.out⟩
end Go.Proofs.YtcbpjgnbdpfiiaaGreatDoor
set_option linter.unusedVariables false
namespace Go.Proofs.YtcbpjgnbdpfiiaaGreatDoor
set_option maxRecDepth 100000
open Go.RowKit Go.WideShapes

end Go.Proofs.YtcbpjgnbdpfiiaaGreatDoor
set_option linter.unusedVariables false
namespace Go.Proofs.YtcbpjgnbdpfiiaaGreatDoor
set_option maxRecDepth 100000
open Go.RowKit

set_option maxHeartbeats 3200000 in
theorem step_plain {pb b c : Nat} {T : List Tok} {st : Pst} {s0 s1 : Pst} {p : Ph} {u1s : ByteArray} {u1k u1n : Int} (hT : T.length ≤ 200) (hat : st.at' ≤ 300) (ho : st.opn ≤ 100) (hop : 1 ≤ s1.opn ∧ s1.opn ≤ 200) (hat1 : s1.at' ≤ 300) (he : enterM T st (stepB (seeM T st 0)) = s0) (hu1 : seeM T s1 0 = ⟨u1k, u1s, u1n⟩) (nb : eqT ⟨u1k, u1s, u1n⟩ ⟨5, ⟨#[91]⟩, 0⟩ = false) (hlu : RunT pb b c T 162 #[.pointer (some ⟨pb, 0, none⟩)] s0 s1 p) : RunT pb b c T 159 #[.pointer (some ⟨pb, 0, none⟩)] st { s1 with opn := s1.opn - 1 } p := by
  intro w h htb
  have HTB : Hid (RTab w pb) := htb
  clear htb
  have HLU : Hid (RunT pb b c T 162 #[.pointer (some ⟨pb, 0, none⟩)] s0 s1 p) := hlu
  clear hlu
  obtain ⟨beg, hbeg⟩ : ∃ x, x = stepB (seeM T st 0) := ⟨_, rfl⟩
  have SB : Hid (∀ W, PaS W pb b c T st → Calls Tryz.prog 72 #[.pointer (some ⟨pb, 0, none⟩)] W fun e w' => e = .returned (.bool beg) ∧ Below W.heap.size W w') := fun W h => by rw [hbeg]; exact stepBegins_any h hT hat
  rw [← hbeg] at he
  clear hbeg
  have EN := neT_run nb
  have hpl := h.pl
  have hbl := h.bl
  have HPW : Hid (pb < w.heap.size) := hpl
  go_enter_defers Tryz.func159, Tryz.ntmps159
  go_upto_region 1 with fail
  obtain ⟨W1, hW1⟩ : ∃ W, W = w.alloc (.cells #[.int .i64 0, .int .i64 0, .int .i64 0, .string ⟨#[]⟩, .string ⟨#[]⟩, .int .i64 0, .int .i64 0, .int .i64 0, .string ⟨#[]⟩, .slice none 0 0, .slice none 0 0] 38) := ⟨_, rfl⟩
  have HG1 : Hid (GrowA pb w W1) := by rw [hW1]; exact (GrowA.refl _ _).alloc _
  have HP1 : Hid (PaS W1 pb b c T st) := by rw [hW1]; exact h.allocI _
  have HR1 : Hid (PhB W1 w.heap.size #[.int .i64 0, .int .i64 0, .int .i64 0, .string ⟨#[]⟩, .string ⟨#[]⟩, .int .i64 0, .int .i64 0, .int .i64 0, .string ⟨#[]⟩, .slice none 0 0, .slice none 0 0]) := by rw [hW1]; exact PhB.new w _
  rw [← hW1]
  obtain ⟨r, hr⟩ : ∃ r, r = w.heap.size := ⟨_, rfl⟩
  have HRW : Hid (w.heap.size ≤ r) := Nat.le_of_eq hr.symm
  have hrp : r ≠ pb := by omega
  have hrb : r ≠ b := by omega
  rw [← hr] at HR1 ⊢
  clear hW1 hr h hpl hbl
  go_wp2_with (first
    | (go_at_call 72; (first | refine (SB.out _ HP1.out).mono ?_ | refine (SB.out _ (HP1.out.allocI _) ).mono ?_ | refine (SB.out _ ((HP1.out.allocI _).allocI _) ).mono ?_); rintro e w2 ⟨rfl, hb⟩; have HG2 : Hid (GrowA pb w w2) := (by first | exact HG1.out.below hb | exact (HG1.out.alloc _).below hb | exact ((HG1.out.alloc _).alloc _).below hb); have HP2 : Hid (PaS w2 pb b c T st) := (by first | exact HP1.out.below hb | exact (HP1.out.allocI _).below hb | exact ((HP1.out.allocI _).allocI _).below hb); have HR2 : Hid (PhB w2 r #[.int .i64 0, .int .i64 0, .int .i64 0, .string ⟨#[]⟩, .string ⟨#[]⟩, .int .i64 0, .int .i64 0, .int .i64 0, .string ⟨#[]⟩, .slice none 0 0, .slice none 0 0]) := (by first | exact HR1.out.below hb | exact (HR1.out.allocI _).below hb | exact ((HR1.out.allocI _).allocI _).below hb); clear hb HP1 HG1 HR1)
    | (go_at_call 43; (first | refine (penter_is HP2.out _ ho).mono ?_ | refine (penter_is (HP2.out.allocI _) _ ho).mono ?_); rintro e w3 ⟨q, rfl, hl, hp, hg, hq⟩; have HG3 : Hid (GrowA pb w w3) := (by first | exact HG2.out.trans hg | exact (HG2.out.alloc _).trans hg); have HP3 : Hid (PaS w3 pb b c T s0) := (by rw [← he]; exact hp); have HR3 : Hid (PhB w3 r #[.int .i64 0, .int .i64 0, .int .i64 0, .string ⟨#[]⟩, .string ⟨#[]⟩, .int .i64 0, .int .i64 0, .int .i64 0, .string ⟨#[]⟩, .slice none 0 0, .slice none 0 0]) := (by first | exact HR2.out.grow hg hrp | exact (HR2.out.allocI _).grow hg hrp); have HL3 : Hid (Leave w3 pb q) := hl; have hrq : r ≠ q := (by have k1 := HR2.out.lt; first | omega | (simp at hq; omega)); clear hl hp hg hq HP2 HG2 HR2)
    | (go_at_call 162; (first | refine (HLU.out.use HTB.out HP3.out HG3.out (show r < _ from by have k := HR3.out.lt; first | exact k | (simp; omega))).mono ?_ | refine (HLU.out.use HTB.out (HP3.out.allocI _) (HG3.out.alloc _) (show r < _ from by have k := HR3.out.lt; first | exact k | (simp; omega))).mono ?_ | refine (HLU.out.use HTB.out ((HP3.out.allocI _).allocI _) ((HG3.out.alloc _).alloc _) (show r < _ from by have k := HR3.out.lt; first | exact k | (simp; omega))).mono ?_); rintro e w4 ⟨lo1, v, hlo, hv, rfl, hp, hg⟩; obtain ⟨k0_1, k1_1, k2_1, k5_1, k6_1, k7_1, s3_1, s4_1, s8_1, a9_1, a10_1, l9_1, c9_1, l10_1, c10_1, rfl⟩ := hv.form; have hlo1 := hlo.1; have hlp1 := hlo.2.1; have hlz1 := hlo.2.2; have HG4 : Hid (GrowA pb w w4) := (by first | exact HG3.out.trans hg | exact (HG3.out.alloc _).trans hg | exact ((HG3.out.alloc _).alloc _).trans hg); have HP4 : Hid (PaS w4 pb b c T s1) := hp; have HR4 : Hid (PhB w4 r #[.int .i64 0, .int .i64 0, .int .i64 0, .string ⟨#[]⟩, .string ⟨#[]⟩, .int .i64 0, .int .i64 0, .int .i64 0, .string ⟨#[]⟩, .slice none 0 0, .slice none 0 0]) := (by first | exact HR3.out.grow hg hrp | exact (HR3.out.allocI _).grow hg hrp | exact ((HR3.out.allocI _).allocI _).grow hg hrp); have HL4 : Hid (Leave w4 pb q) := (by first | exact HL3.out.grow hg | exact (HL3.out.allocI _).grow hg | exact ((HL3.out.allocI _).allocI _).grow hg); have HV1_4 : Hid (Tre w4 lo1 p [.int .i64 k0_1, .int .i64 k1_1, .int .i64 k2_1, .string s3_1, .string s4_1, .int .i64 k5_1, .int .i64 k6_1, .int .i64 k7_1, .string s8_1, .slice a9_1 l9_1 c9_1, .slice a10_1 l10_1 c10_1]) := hv; have hxp : w4.heap.size ≠ pb := (by have := HP4.out.pl; omega); clear hv hlo hp hg HP3 HG3 HR3 HL3)
    | (go_at_call 70; (first | refine (see_lit HP4.out 0 (by omega) hT hat1 hu1).mono ?_ | refine (see_lit (HP4.out.allocI _) 0 (by omega) hT hat1 hu1).mono ?_ | refine (see_lit ((HP4.out.allocI _).allocI _) 0 (by omega) hT hat1 hu1).mono ?_); rintro e w5 ⟨rfl, hb⟩; have HG5 : Hid (GrowA pb w w5) := (by first | exact HG4.out.below hb | exact (HG4.out.alloc _).below hb | exact ((HG4.out.alloc _).alloc _).below hb); have HP5 : Hid (PaS w5 pb b c T s1) := (by first | exact HP4.out.below hb | exact (HP4.out.allocI _).below hb | exact ((HP4.out.allocI _).allocI _).below hb); have HR5 : Hid (PhB w5 r #[.int .i64 0, .int .i64 0, .int .i64 0, .string ⟨#[]⟩, .string ⟨#[]⟩, .int .i64 0, .int .i64 0, .int .i64 0, .string ⟨#[]⟩, .slice none 0 0, .slice none 0 0]) := (by first | exact HR4.out.below hb | exact (HR4.out.allocI _).below hb | exact ((HR4.out.allocI _).allocI _).below hb); have HL5 : Hid (Leave w5 pb q) := (by first | exact HL4.out.below hb | exact (HL4.out.allocI _).below hb | exact ((HL4.out.allocI _).allocI _).below hb); have HV1_5 : Hid (Tre w5 lo1 p [.int .i64 k0_1, .int .i64 k1_1, .int .i64 k2_1, .string s3_1, .string s4_1, .int .i64 k5_1, .int .i64 k6_1, .int .i64 k7_1, .string s8_1, .slice a9_1 l9_1 c9_1, .slice a10_1 l10_1 c10_1]) := (by first | exact HV1_4.out.below hb | exact (HV1_4.out.allocI _).below hb | exact ((HV1_4.out.allocI _).allocI _).below hb); have HX5 : Hid (PhB w5 w4.heap.size #[.int .i64 k0_1, .int .i64 k1_1, .int .i64 k2_1, .string s3_1, .string s4_1, .int .i64 k5_1, .int .i64 k6_1, .int .i64 k7_1, .string s8_1, .slice a9_1 l9_1 c9_1, .slice a10_1 l10_1 c10_1]) := (PhB.new w4 #[.int .i64 k0_1, .int .i64 k1_1, .int .i64 k2_1, .string s3_1, .string s4_1, .int .i64 k5_1, .int .i64 k6_1, .int .i64 k7_1, .string s8_1, .slice a9_1 l9_1 c9_1, .slice a10_1 l10_1 c10_1]).below hb; clear hb HP4 HG4 HR4 HL4 HV1_4)
    | (go_at_call 71; have HNX := HP5; refine (mark_is _ _).mono ?_; rintro e w6 ⟨rfl, hb⟩; have HG6 : Hid (GrowA pb w w6) := (by first | exact HG5.out.below hb | exact (HG5.out.alloc _).below hb | exact ((HG5.out.alloc _).alloc _).below hb); have HP6 : Hid (PaS w6 pb b c T s1) := (by first | exact HP5.out.below hb | exact (HP5.out.allocI _).below hb | exact ((HP5.out.allocI _).allocI _).below hb); have HR6 : Hid (PhB w6 r #[.int .i64 0, .int .i64 0, .int .i64 0, .string ⟨#[]⟩, .string ⟨#[]⟩, .int .i64 0, .int .i64 0, .int .i64 0, .string ⟨#[]⟩, .slice none 0 0, .slice none 0 0]) := (by first | exact HR5.out.below hb | exact (HR5.out.allocI _).below hb | exact ((HR5.out.allocI _).allocI _).below hb); have HL6 : Hid (Leave w6 pb q) := (by first | exact HL5.out.below hb | exact (HL5.out.allocI _).below hb | exact ((HL5.out.allocI _).allocI _).below hb); have HV1_6 : Hid (Tre w6 lo1 p [.int .i64 k0_1, .int .i64 k1_1, .int .i64 k2_1, .string s3_1, .string s4_1, .int .i64 k5_1, .int .i64 k6_1, .int .i64 k7_1, .string s8_1, .slice a9_1 l9_1 c9_1, .slice a10_1 l10_1 c10_1]) := (by first | exact HV1_5.out.below hb | exact (HV1_5.out.allocI _).below hb | exact ((HV1_5.out.allocI _).allocI _).below hb); have HX6 : Hid (PhB w6 w4.heap.size #[.int .i64 k0_1, .int .i64 k1_1, .int .i64 k2_1, .string s3_1, .string s4_1, .int .i64 k5_1, .int .i64 k6_1, .int .i64 k7_1, .string s8_1, .slice a9_1 l9_1 c9_1, .slice a10_1 l10_1 c10_1]) := (by first | exact HX5.out.below hb | exact (HX5.out.allocI _).below hb | exact ((HX5.out.allocI _).allocI _).below hb); obtain ⟨⟨y0, y1, y2, y3, y4, y5, y6, y7, y8, y9, y10⟩, z0, z1, z2, z3, z4, z5, z6, z7, z8, z9, z10⟩ := HR6.out.cells; obtain ⟨⟨m0, m1, m2, m3, m4, m5, m6, m7, m8, m9, m10⟩, j0, j1, j2, j3, j4, j5, j6, j7, j8, j9, j10⟩ := HX6.out.cells; clear hb HNX HP5 HG5 HR5 HL5 HV1_5 HX5))
  obtain ⟨Wd, hWd⟩ : ∃ W, W = (((((((((((w6.setCell ⟨r, 0, none⟩ (.int .i64 k0_1)).setCell ⟨r, 1, none⟩ (.int .i64 k1_1)).setCell ⟨r, 2, none⟩ (.int .i64 k2_1)).setCell ⟨r, 3, none⟩ (.string s3_1)).setCell ⟨r, 4, none⟩ (.string s4_1)).setCell ⟨r, 5, none⟩ (.int .i64 k5_1)).setCell ⟨r, 6, none⟩ (.int .i64 k6_1)).setCell ⟨r, 7, none⟩ (.int .i64 k7_1)).setCell ⟨r, 8, none⟩ (.string s8_1)).setCell ⟨r, 9, none⟩ (.slice a9_1 l9_1 c9_1)).setCell ⟨r, 10, none⟩ (.slice a10_1 l10_1 c10_1)) := ⟨_, rfl⟩
  have HD : Hid (PaS Wd pb b c T s1) := by
    refine HidOf ?_
    rw [hWd]
    (repeat (first | with_reducible refine PaS.setR ?_ hrp hrb _ _ | with_reducible refine PaS.allocI ?_ _ | exact HP6.out))
  have HE : Hid (GrowA pb w Wd) := by
    refine HidOf ?_
    rw [hWd]
    (repeat (first | with_reducible refine GrowA.setR ?_ HRW.out _ _ | with_reducible refine GrowA.alloc ?_ _ | exact HG6.out))
  have HQ : Hid (Leave Wd pb q) := by
    refine HidOf ?_
    rw [hWd]
    (repeat (first | with_reducible refine Leave.setR ?_ hrq _ _ | with_reducible refine Leave.allocI ?_ _ | exact HL6.out))
  have HZ : Hid (PhB Wd r #[.int .i64 k0_1, .int .i64 k1_1, .int .i64 k2_1, .string s3_1, .string s4_1, .int .i64 k5_1, .int .i64 k6_1, .int .i64 k7_1, .string s8_1, .slice a9_1 l9_1 c9_1, .slice a10_1 l10_1 c10_1]) := by rw [hWd]; exact PhB.put HR6.out
  have HT : Hid (Tre Wd w.heap.size p [.int .i64 k0_1, .int .i64 k1_1, .int .i64 k2_1, .string s3_1, .string s4_1, .int .i64 k5_1, .int .i64 k6_1, .int .i64 k7_1, .string s8_1, .slice a9_1 l9_1 c9_1, .slice a10_1 l10_1 c10_1]) := by
    refine HidOf ?_
    rw [hWd]
    (refine Tre.mono (lo := lo1) ?_ (by have := HRW.out; omega); (repeat (first | with_reducible refine Tre.setR ?_ hlo1 _ _ | with_reducible refine Tre.allocI ?_ _ | with_reducible exact HV1_6.out)))
  rw [← hWd]
  clear hWd
  refine leaves_cons (f := 69) (args := #[.pointer (some ⟨q, 0, none⟩)]) (by simp) (by simp [go_sem]) ?_
  refine (pleave_is HD.out HQ.out hop .returning).mono ?_
  rintro e u' w99 ⟨rfl, rfl, hp, hg⟩
  obtain ⟨⟨u0, u1, u2, u3, u4, u5, u6, u7, u8, u9, u10⟩, _⟩ := (HZ.out.grow hg hrp).cells
  exact ⟨.agg #[.int .i64 k0_1, .int .i64 k1_1, .int .i64 k2_1, .string s3_1, .string s4_1, .int .i64 k5_1, .int .i64 k6_1, .int .i64 k7_1, .string s8_1, .slice a9_1 l9_1 c9_1, .slice a10_1 l10_1 c10_1], by simp [results, Tryz.results159, go_sem, u0, u1, u2, u3, u4, u5, u6, u7, u8, u9, u10], ⟨_, HT.out.grow hg HPW.out, rfl, hp, HE.out.trans hg⟩⟩
end Go.Proofs.YtcbpjgnbdpfiiaaGreatDoor
set_option linter.unusedVariables false
namespace Go.Proofs.YtcbpjgnbdpfiiaaGreatDoor
set_option maxRecDepth 100000
open Go.RowKit Go.WideShapes Go.Shelf
attribute [local go_sem] Oper.semAt_some

/-- a clause of the lowering: where the clause lies, and its expression -/
structure CV where
  pb : Nat
  po : Nat
  k : Int
  it : It
  nm : ByteArray
  at_ : ByteArray
  n : Int
  ax : Int
  tk : Int
  tn : ByteArray
  aa : Option Addr
  am : Nat
  ac : Nat
/-- its value -/
def CV.val (x : CV) : Value := .agg #[.pointer (some ⟨x.pb, x.po, none⟩), .int .i64 x.k, .int .i64 x.it.kind, .int .i64 x.it.n, .string x.it.s, .string x.nm, .string x.at_, .int .i64 x.n, .int .i64 x.ax, .int .i64 x.tk, .string x.tn, .slice x.aa x.am x.ac]
/-- its cells -/
structure CvAt (w : World) (b off : Nat) (x : CV) : Prop where
  c0 : w.cell? ⟨b, off, none⟩ = some (.pointer (some ⟨x.pb, x.po, none⟩))
  c1 : w.cell? ⟨b, off + 1, none⟩ = some (.int .i64 x.k)
  c2 : w.cell? ⟨b, off + 2, none⟩ = some (.int .i64 x.it.kind)
  c3 : w.cell? ⟨b, off + 3, none⟩ = some (.int .i64 x.it.n)
  c4 : w.cell? ⟨b, off + 4, none⟩ = some (.string x.it.s)
  c5 : w.cell? ⟨b, off + 5, none⟩ = some (.string x.nm)
  c6 : w.cell? ⟨b, off + 6, none⟩ = some (.string x.at_)
  c7 : w.cell? ⟨b, off + 7, none⟩ = some (.int .i64 x.n)
  c8 : w.cell? ⟨b, off + 8, none⟩ = some (.int .i64 x.ax)
  c9 : w.cell? ⟨b, off + 9, none⟩ = some (.int .i64 x.tk)
  c10 : w.cell? ⟨b, off + 10, none⟩ = some (.string x.tn)
  c11 : w.cell? ⟨b, off + 11, none⟩ = some (.slice x.aa x.am x.ac)
theorem CvAt.block {w w' : World} {b off : Nat} {x : CV} (h : CvAt w b off x) (e : w'.heap[b]? = w.heap[b]?) : CvAt w' b off x :=
  have e : ∀ o, w'.cell? ⟨b, o, none⟩ = w.cell? ⟨b, o, none⟩ := fun o => by simp only [World.cell?, e]
  ⟨(e _).trans h.c0, (e _).trans h.c1, (e _).trans h.c2, (e _).trans h.c3, (e _).trans h.c4, (e _).trans h.c5, (e _).trans h.c6, (e _).trans h.c7, (e _).trans h.c8, (e _).trans h.c9, (e _).trans h.c10, (e _).trans h.c11⟩
/-- two blocks lie as they lay -/
def Two (B b : Nat) (w w' : World) : Prop := w'.heap[B]? = w.heap[B]? ∧ w'.heap[b]? = w.heap[b]?
theorem Two.refl (B b : Nat) (w : World) : Two B b w w := ⟨rfl, rfl⟩
theorem Two.trans {B b : Nat} {u v w : World} (h : Two B b u v) (k : Two B b v w) : Two B b u w := ⟨k.1.trans h.1, k.2.trans h.2⟩
/-- what has come, when m are over, from the last one on -/
def dn (len m : Nat) : List Nat := (List.range m).map fun j => len - 1 - j
theorem dn_succ (len m : Nat) : dn len (m + 1) = dn len m ++ [len - 1 - m] := by simp [dn, List.range_succ]
theorem dn_length (len m : Nat) : (dn len m).length = m := by simp [dn]

set_option maxHeartbeats 2000000 in
theorem backward1_in (F : Fence) (n : Nat) (h7 : F.fn 145) (hro : F.round = none) (hn : 1 ≤ n) (l Bs b off len cap : Nat) (C : Nat → CV) (hlen : len ≤ 1000) (J Jx : List Nat → World → Prop)
    (hY : ∀ pre x W, J pre W → pre.length < len → YieldAt F (n - 1) Tryz.prog l #[.int .i64 ((x : Nat) : Int), (C x).val] W fun e W' =>
      (e = .returned (.bool true) ∧ J (pre ++ [x]) W' ∧ Two Bs b W W') ∨ (e = .returned (.bool false) ∧ Jx (pre ++ [x]) W'))
    (W : World) (hBs : W.heap[Bs]? = some (.cells #[.slice (some ⟨b, off, none⟩) len cap] 137)) (hc : ∀ j, j < len → CvAt W b (off + j * 12) (C j)) (h0 : J [] W) :
    CallsIn F n Tryz.prog 145 #[.func (.yield l) #[] #[], .pointer (some ⟨Bs, 0, none⟩)] W fun e W' => (∃ v, e = .returned v) ∧
      ((∃ ys, ys = dn len len ∧ J ys W') ∨ (∃ pre, (∃ k, k ≤ len ∧ pre = dn len k) ∧ Jx pre W')) := by
  have hs0 : W.cell? ⟨Bs, 0, none⟩ = some (.slice (some ⟨b, off, none⟩) len cap) := by rw [Lib.cell_of_heap hBs]; rfl
  have hw0 : IntKind.i64.wrap ((len : Int) - 1) = (len : Int) - 1 := IntWalk.i64_in _ (by omega)
  refine callsIn_of_wp Tryz.func145 rfl h7 ?_ hro
  simp only [Tryz.ntmps145, List.size_toArray, List.length_cons, List.length_nil, Nat.reduceAdd, Nat.reduceSub, Array.replicate_succ, Array.replicate_zero, List.push_toArray, List.append_toArray, List.nil_append, List.cons_append]
  gi_wp2
  gi_loopw [3] (fun i wr => ∃ (m : Nat) (z : Int), m ≤ len ∧ i = .int .i64 z ∧ z = (len : Int) - 1 - m ∧ J (dn len m) wr ∧ Two Bs b W wr)
    (fun i _ => ((intOf i) + 1).toNat)
  case atStart => exact ⟨0, _, Nat.zero_le _, rfl, by simp, h0, Two.refl _ _ _⟩
  case round =>
    obtain ⟨m, z, hm, rfl, hz, hJs, hnx⟩ := hrel
    by_cases hlt : m < len
    · obtain ⟨j, hj⟩ : ∃ j : Nat, j = len - 1 - m := ⟨_, rfl⟩
      obtain rfl : z = (j : Int) := by omega
      have hjl : j < len := by omega
      have hw1 : IntKind.i64.wrap ((j : Int) - 1) = (j : Int) - 1 := IntWalk.i64_in _ (by omega)
      obtain ⟨fn, tmps, assign, body, hy, hR⟩ := hY _ j wr hJs (by rw [dn_length]; exact hlt)
      have hs1 : wr.cell? ⟨Bs, 0, none⟩ = some (.slice (some ⟨b, off, none⟩) len cap) := by rw [Lib.cell_of_heap (hnx.1.trans hBs)]; rfl
      obtain ⟨c0, c1, c2, c3, c4, c5, c6, c7, c8, c9, c10, c11⟩ := (hc j hjl).block hnx.2
      simp only [CV.val] at hy
      have HJ := hidC hj
      have HZ := hidC hz
      clear hj hz
      gi_wp2
      refine hR.mono ?_
      rintro e W3 (⟨rfl, hJ3, hk3⟩ | ⟨rfl, hJx3⟩)
      · gi_wp2
        go_roundw
        case rel => exact ⟨m + 1, _, by omega, rfl, by have := HZ.out; omega, by rw [dn_succ, ← HJ.out]; exact hJ3, hnx.trans hk3⟩
        case measure => simp [intOf]
      · gi_wp2
        refine bodyPost_ret (results_none rfl _ _ _) rfl ?_
        exact ⟨⟨_, rfl⟩, .inr ⟨_, ⟨m + 1, by omega, rfl⟩, by rw [dn_succ, ← HJ.out]; exact hJx3⟩⟩
    · obtain rfl : m = len := by omega
      obtain rfl : z = -1 := by omega
      gi_wp2
      go_end0
      exact ⟨⟨_, rfl⟩, .inl ⟨_, rfl, hJs⟩⟩
set_option maxHeartbeats 1000000 in
theorem backward_is (a : Option Addr) (len cap : Nat) (w : World) :
    Calls Tryz.prog 130 #[.slice a len cap] w fun e w' => e = .returned (.func (.func 145) #[] #[.pointer (some ⟨w.heap.size, 0, none⟩)]) ∧ w' = w.alloc (.cells #[.slice a len cap] 137) := by
  go_enter Tryz.func130, Tryz.ntmps130
  go_wp2
  go_ret
  exact ⟨rfl, rfl⟩
/-- slices.Backward hands back what goes through the clauses from the last one to the first one -/
theorem backward_stops (F : Fence) (n : Nat) (h7 : F.fn 145) (hro : F.round = none) (hn : 1 ≤ n) (Bs b off len cap : Nat) (C : Nat → CV) (hlen : len ≤ 1000) (w : World) (hBs : w.heap[Bs]? = some (.cells #[.slice (some ⟨b, off, none⟩) len cap] 137)) (hc : ∀ j, j < len → CvAt w b (off + j * 12) (C j)) (hb : b < w.heap.size) :
    SeqStopsK F n Tryz.prog 145 #[.pointer (some ⟨Bs, 0, none⟩)] (fun x : Nat => #[Value.int .i64 (x : Int), (C x).val]) (Two Bs b) (fun ys => ys = dn len len) (fun _ => True) len w := fun l J Jx W hW _ _ hY h0 => by
  refine (backward1_in F n h7 hro hn l Bs b off len cap C hlen J Jx hY W (blC hW (Array.getElem?_eq_some_iff.1 hBs).1 hBs) (fun j hj => (hc j hj).block (hW.block b hb)) h0).mono ?_
  rintro e W' ⟨he, ⟨ys, rfl, hj⟩ | ⟨pre, _, hj⟩⟩
  · exact ⟨he, .inl ⟨_, rfl, hj⟩⟩
  · exact ⟨he, .inr ⟨_, trivial, hj⟩⟩
theorem two_b {Bs b : Nat} {w : World} (h1 : Bs < w.heap.size) (h2 : b < w.heap.size) (W : World) (l : Nat) (o o' : Obj) (hl : w.heap.size ≤ l) (_ : W.heap[l]? = some o) (_ : o.isCells = false) (_ : o.isWalk = false) : Two Bs b W (W.putObj l o') :=
  ⟨World.putObj_heap_other (by omega), World.putObj_heap_other (by omega)⟩
end Go.Proofs.YtcbpjgnbdpfiiaaGreatDoor
