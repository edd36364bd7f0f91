/-
  CONTRACTS of package core: expressions that are made in one step: lit, nothing, call, let, loop, conditional.
-/
import Derived.Test.YtcbpjgnbdpfiiaaGreatDoorLcC
set_option linter.unusedVariables false
namespace Go.Proofs.YtcbpjgnbdpfiiaaGreatDoor
set_option maxRecDepth 100000
open Go.RowKit Go.WideShapes

/-- what a step of a lowering keeps: its own block but for how many parts there are, and every block of before -/
def Kp (lb : Nat) (m1 m2 m3 : Value) (q : Nat) (w w' : World) : Prop :=
  w'.heap[lb]? = some (.cells #[m1, m2, m3, .int .i64 (q : Int), .int .i64 0] 78) ∧ (∀ b, b < w.heap.size → b ≠ lb → w'.heap[b]? = w.heap[b]?) ∧ Below lb w w'
set_option maxHeartbeats 3200000 in
theorem lit_is (lb : Nat) (m1 m2 m3 : Value) (p : Nat) (it : It) (w : World) (hl : w.heap[lb]? = some (.cells #[m1, m2, m3, .int .i64 (p : Int), .int .i64 0] 78)) (hp : p + 1 ≤ 700) (h1 : it.s.size ≤ 4000) :
    Calls Tryz.prog 102 #[.pointer (some ⟨lb, 0, none⟩), .agg #[.int .i64 it.kind, .int .i64 it.n, .string it.s]] w fun e w' => e = .returned (.agg #[.int .i64 1, .int .i64 it.kind, .int .i64 it.n, .string it.s, .string ⟨#[]⟩, .string ⟨#[]⟩, .int .i64 0, .int .i64 0, .int .i64 0, .string ⟨#[]⟩, .slice none 0 0]) ∧ Kp lb m1 m2 m3 (p + 1) w w' := by
  have HL := hidC hl
  obtain ⟨_, _, _, _, _, _, l6⟩ := bk5 hl
  have CM : Hid (∀ W, W.heap[lb]? = some (.cells #[m1, m2, m3, .int .i64 (p : Int), .int .i64 0] 78) → Calls Tryz.prog 98 _ W _) := fun W hW => made_is lb m1 m2 m3 p 1 it ⟨#[]⟩ ⟨#[]⟩ 0 0 0 ⟨#[]⟩ none 0 0 none 0 0 W hW hp h1 (Nat.zero_le _) (Nat.zero_le _) (Nat.zero_le _)
  clear hl hp
  unfold Kp
  generalize ((p + 1 : Nat) : Int) = q at *
  go_enter Tryz.func102, Tryz.ntmps102
  go_wp2_with (go_at_call 98; refine (CM.out _ ?_).mono ?_; (· exact aOld (aOld (HL.out))); rintro e w1 ⟨rfl, hl1, ho1, hb1⟩; have HL1 := hidC hl1; have HZ1 := hidC ((ho1 (w.heap.size + 1) (by simp) (by omega)).trans (aNew (by simp))); have HO1 : Hid (∀ b, b < w.heap.size → b ≠ lb → w1.heap[b]? = w.heap[b]?) := (fun b hb hne => (by obtain ⟨o, ho⟩ : ∃ o, w.heap[b]? = some o := ⟨_, Array.getElem?_eq_getElem hb⟩; rw [ho]; exact (ho1 b (by simp; omega) hne).trans (aOld (aOld (ho))))); have HB1 : Hid (Below lb w w1) := Below.trans (Below.alloc (Below.alloc (Below.refl lb w) (Nat.le_of_lt l6) _) (by simp; omega) _) hb1; obtain ⟨z0, z1, z2, z3, z4, z5, z6, z7, z8, z9, z10, z11, z12⟩ := bk11 HZ1.out; clear hl1 ho1 hb1)
  obtain ⟨W2, hW2⟩ : ∃ W, W = (((((((((((w1).setCell ⟨w.heap.size + 1, 0, none⟩ (.int .i64 1)).setCell ⟨w.heap.size + 1, 1, none⟩ (.int .i64 it.kind)).setCell ⟨w.heap.size + 1, 2, none⟩ (.int .i64 it.n)).setCell ⟨w.heap.size + 1, 3, none⟩ (.string it.s)).setCell ⟨w.heap.size + 1, 4, none⟩ (.string ⟨#[]⟩)).setCell ⟨w.heap.size + 1, 5, none⟩ (.string ⟨#[]⟩)).setCell ⟨w.heap.size + 1, 6, none⟩ (.int .i64 0)).setCell ⟨w.heap.size + 1, 7, none⟩ (.int .i64 0)).setCell ⟨w.heap.size + 1, 8, none⟩ (.int .i64 0)).setCell ⟨w.heap.size + 1, 9, none⟩ (.string ⟨#[]⟩)).setCell ⟨w.heap.size + 1, 10, none⟩ (.slice none 0 0) := ⟨_, rfl⟩
  have hW3 : W2 = putL w1 (w.heap.size + 1) 0 [.int .i64 1, .int .i64 it.kind, .int .i64 it.n, .string it.s, .string ⟨#[]⟩, .string ⟨#[]⟩, .int .i64 0, .int .i64 0, .int .i64 0, .string ⟨#[]⟩, .slice none 0 0] := hW2
  have HZ2 : Hid (W2.heap[w.heap.size + 1]? = some (.cells #[.int .i64 1, .int .i64 it.kind, .int .i64 it.n, .string it.s, .string ⟨#[]⟩, .string ⟨#[]⟩, .int .i64 0, .int .i64 0, .int .i64 0, .string ⟨#[]⟩, .slice none 0 0] 43)) := by rw [hW3]; exact putL_same HZ1.out _ rfl
  have HL2 : Hid (W2.heap[lb]? = some (.cells #[m1, m2, m3, .int .i64 q, .int .i64 0] 78)) := by rw [hW3]; exact (putL_other (by omega) _ _ _).trans HL1.out
  have HO2 : Hid (∀ c, c < w.heap.size → c ≠ lb → W2.heap[c]? = w.heap[c]?) := by rw [hW3]; exact fun c h1 h2 => (putL_other (by omega) _ _ _).trans (HO1.out c h1 h2)
  have HB2 : Hid (Below lb w W2) := by rw [hW3]; exact putL_below (B := lb) (by omega) _ _ _ HB1.out
  rw [← hW2]
  clear hW2 hW3
  obtain ⟨y0, y1, y2, y3, y4, y5, y6, y7, y8, y9, y10, _, _⟩ := bk11 HZ2.out
  exact bodyPost_ret (v := .agg #[.int .i64 1, .int .i64 it.kind, .int .i64 it.n, .string it.s, .string ⟨#[]⟩, .string ⟨#[]⟩, .int .i64 0, .int .i64 0, .int .i64 0, .string ⟨#[]⟩, .slice none 0 0]) (by simp [results, Tryz.results102, go_sem, y0, y1, y2, y3, y4, y5, y6, y7, y8, y9, y10]) rfl ⟨rfl, ⟨HL2.out, HO2.out, HB2.out⟩⟩
set_option maxHeartbeats 3200000 in
theorem loop_is (lb : Nat) (m1 m2 m3 : Value) (p : Nat) (nm at' : ByteArray) (k1 : Int) (i1 : It) (nm1 at1 : ByteArray) (n1 ax1 tk1 : Int) (tn1 : ByteArray) (aa1 : Option Addr) (am1 ac1 : Nat) (k2 : Int) (i2 : It) (nm2 at2 : ByteArray) (n2 ax2 tk2 : Int) (tn2 : ByteArray) (aa2 : Option Addr) (am2 ac2 : Nat) (w : World) (hl : w.heap[lb]? = some (.cells #[m1, m2, m3, .int .i64 (p : Int), .int .i64 0] 78)) (hp : p + 1 ≤ 700) (h1 : nm.size ≤ 4000) (h2 : at'.size ≤ 4000) :
    Calls Tryz.prog 89 #[.pointer (some ⟨lb, 0, none⟩), .string nm, .string at', .agg #[.int .i64 k1, .int .i64 i1.kind, .int .i64 i1.n, .string i1.s, .string nm1, .string at1, .int .i64 n1, .int .i64 ax1, .int .i64 tk1, .string tn1, .slice aa1 am1 ac1], .agg #[.int .i64 k2, .int .i64 i2.kind, .int .i64 i2.n, .string i2.s, .string nm2, .string at2, .int .i64 n2, .int .i64 ax2, .int .i64 tk2, .string tn2, .slice aa2 am2 ac2]] w fun e w' => e = .returned (.agg #[.int .i64 5, .int .i64 0, .int .i64 0, .string ⟨#[]⟩, .string nm, .string at', .int .i64 0, .int .i64 0, .int .i64 0, .string ⟨#[]⟩, .slice (some ⟨w.heap.size + 3, 0, none⟩) 2 2]) ∧ Kp lb m1 m2 m3 (p + 1) w w' ∧ w'.heap[w.heap.size + 3]? = some (.cells #[.int .i64 k1, .int .i64 i1.kind, .int .i64 i1.n, .string i1.s, .string nm1, .string at1, .int .i64 n1, .int .i64 ax1, .int .i64 tk1, .string tn1, .slice aa1 am1 ac1, .int .i64 k2, .int .i64 i2.kind, .int .i64 i2.n, .string i2.s, .string nm2, .string at2, .int .i64 n2, .int .i64 ax2, .int .i64 tk2, .string tn2, .slice aa2 am2 ac2] 43) := by
  have HL := hidC hl
  obtain ⟨_, _, _, _, _, _, l6⟩ := bk5 hl
  have CM : Hid (∀ W, W.heap[lb]? = some (.cells #[m1, m2, m3, .int .i64 (p : Int), .int .i64 0] 78) → Calls Tryz.prog 98 _ W _) := fun W hW => made_is lb m1 m2 m3 p 5 ⟨0, 0, ⟨#[]⟩⟩ nm at' 0 0 0 ⟨#[]⟩ none 0 0 (some ⟨w.heap.size + 3, 0, none⟩) 2 2 W hW hp (Nat.zero_le _) h1 h2 (Nat.zero_le _)
  clear hl hp
  unfold Kp
  generalize ((p + 1 : Nat) : Int) = q at *
  go_enter Tryz.func89, Tryz.ntmps89
  go_wp2_with (go_at_call 98; refine (CM.out _ ?_).mono ?_; (· exact aOld (aOld (aOld (aOld (HL.out))))); rintro e w1 ⟨rfl, hl1, ho1, hb1⟩; have HL1 := hidC hl1; have HZ1 := hidC ((ho1 (w.heap.size + 2) (by simp) (by omega)).trans (aOld (aNew (by simp)))); have HS1 := hidC ((ho1 (w.heap.size + 3) (by simp) (by omega)).trans (aNew (by simp))); have HO1 : Hid (∀ b, b < w.heap.size → b ≠ lb → w1.heap[b]? = w.heap[b]?) := (fun b hb hne => (by obtain ⟨o, ho⟩ : ∃ o, w.heap[b]? = some o := ⟨_, Array.getElem?_eq_getElem hb⟩; rw [ho]; exact (ho1 b (by simp; omega) hne).trans (aOld (aOld (aOld (aOld (ho))))))); have HB1 : Hid (Below lb w w1) := Below.trans (Below.alloc (Below.alloc (Below.alloc (Below.alloc (Below.refl lb w) (Nat.le_of_lt l6) _) (by simp; omega) _) (by simp; omega) _) (by simp; omega) _) hb1; obtain ⟨z0, z1, z2, z3, z4, z5, z6, z7, z8, z9, z10, z11, z12⟩ := bk11 HZ1.out; clear hl1 ho1 hb1)
  obtain ⟨W2, hW2⟩ : ∃ W, W = (((((((((((w1).setCell ⟨w.heap.size + 2, 0, none⟩ (.int .i64 5)).setCell ⟨w.heap.size + 2, 1, none⟩ (.int .i64 0)).setCell ⟨w.heap.size + 2, 2, none⟩ (.int .i64 0)).setCell ⟨w.heap.size + 2, 3, none⟩ (.string ⟨#[]⟩)).setCell ⟨w.heap.size + 2, 4, none⟩ (.string nm)).setCell ⟨w.heap.size + 2, 5, none⟩ (.string at')).setCell ⟨w.heap.size + 2, 6, none⟩ (.int .i64 0)).setCell ⟨w.heap.size + 2, 7, none⟩ (.int .i64 0)).setCell ⟨w.heap.size + 2, 8, none⟩ (.int .i64 0)).setCell ⟨w.heap.size + 2, 9, none⟩ (.string ⟨#[]⟩)).setCell ⟨w.heap.size + 2, 10, none⟩ (.slice (some ⟨w.heap.size + 3, 0, none⟩) 2 2) := ⟨_, rfl⟩
  have hW3 : W2 = putL w1 (w.heap.size + 2) 0 [.int .i64 5, .int .i64 0, .int .i64 0, .string ⟨#[]⟩, .string nm, .string at', .int .i64 0, .int .i64 0, .int .i64 0, .string ⟨#[]⟩, .slice (some ⟨w.heap.size + 3, 0, none⟩) 2 2] := hW2
  have HZ2 : Hid (W2.heap[w.heap.size + 2]? = some (.cells #[.int .i64 5, .int .i64 0, .int .i64 0, .string ⟨#[]⟩, .string nm, .string at', .int .i64 0, .int .i64 0, .int .i64 0, .string ⟨#[]⟩, .slice (some ⟨w.heap.size + 3, 0, none⟩) 2 2] 43)) := by rw [hW3]; exact putL_same HZ1.out _ rfl
  have HL2 : Hid (W2.heap[lb]? = some (.cells #[m1, m2, m3, .int .i64 q, .int .i64 0] 78)) := by rw [hW3]; exact (putL_other (by omega) _ _ _).trans HL1.out
  have HO2 : Hid (∀ c, c < w.heap.size → c ≠ lb → W2.heap[c]? = w.heap[c]?) := by rw [hW3]; exact fun c h1 h2 => (putL_other (by omega) _ _ _).trans (HO1.out c h1 h2)
  have HB2 : Hid (Below lb w W2) := by rw [hW3]; exact putL_below (B := lb) (by omega) _ _ _ HB1.out
  have HS2 : Hid (W2.heap[w.heap.size + 3]? = some (.cells #[.int .i64 k1, .int .i64 i1.kind, .int .i64 i1.n, .string i1.s, .string nm1, .string at1, .int .i64 n1, .int .i64 ax1, .int .i64 tk1, .string tn1, .slice aa1 am1 ac1, .int .i64 k2, .int .i64 i2.kind, .int .i64 i2.n, .string i2.s, .string nm2, .string at2, .int .i64 n2, .int .i64 ax2, .int .i64 tk2, .string tn2, .slice aa2 am2 ac2] 43)) := by rw [hW3]; exact (putL_other (by omega) _ _ _).trans HS1.out
  rw [← hW2]
  clear hW2 hW3
  obtain ⟨y0, y1, y2, y3, y4, y5, y6, y7, y8, y9, y10, _, _⟩ := bk11 HZ2.out
  exact bodyPost_ret (v := .agg #[.int .i64 5, .int .i64 0, .int .i64 0, .string ⟨#[]⟩, .string nm, .string at', .int .i64 0, .int .i64 0, .int .i64 0, .string ⟨#[]⟩, .slice (some ⟨w.heap.size + 3, 0, none⟩) 2 2]) (by simp [results, Tryz.results89, go_sem, y0, y1, y2, y3, y4, y5, y6, y7, y8, y9, y10]) rfl ⟨rfl, ⟨HL2.out, HO2.out, HB2.out⟩, HS2.out⟩
end Go.Proofs.YtcbpjgnbdpfiiaaGreatDoor
