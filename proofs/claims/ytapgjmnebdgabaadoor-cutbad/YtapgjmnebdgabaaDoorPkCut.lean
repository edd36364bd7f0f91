/-
  CONTRACT of pleacherkeep.Path, and THE LAW CutBad.
-/
import Derived.Test.YtapgjmnebdgabaaDoorPoPlain
import Derived.Test.YtapgjmnebdgabaaDoorTcCut
import Derived.Test.YtapgjmnebdgabaaDoorPkPick
set_option linter.unusedVariables false
namespace Go.Proofs.YtapgjmnebdgabaaDoor
set_option maxRecDepth 100000
open Go.RowKit

set_option maxHeartbeats 800000 in
theorem path_is (HN : NodesOk) (v : Value) (n : Nat) (X : Nat → Rw) (w : World) (hr : RawsIs w v n X) (hf : RawsFine n X) :
    Calls Tryd.prog 4 #[v] w fun e w' => ∃ s, PathS s 50 150 ∧ e = .returned (.string s) ∧ Below w.heap.size w w' := by
  have hb0 : Below w.heap.size w (w.alloc (.cells #[v, .bool false, .int .i64 0] 35)) := (Below.refl _ _).alloc (Nat.le_refl _) _
  have hpo : PoS w (w.alloc (.cells #[v, .bool false, .int .i64 0] 35)) w.heap.size false := ⟨rfl, ⟨v, n, X, ⟨by simp, by simp, by simp, by simp, by simp⟩, hr, hf⟩, hb0⟩
  have CN : Hid (Calls Tryd.prog 8 #[.pointer (some ⟨w.heap.size, 0, none⟩), .int .i64 1] (w.alloc (.cells #[v, .bool false, .int .i64 0] 35)) fun e w' => ∃ s, PathS s 50 150 ∧ e = .returned (.string s) ∧ Below w.heap.size w w') := (HN hpo).mono fun e w' ⟨s, k1, k2, k3⟩ => ⟨s, k1, k2, hb0.trans k3⟩
  clear hpo hb0
  obtain ⟨a, cap, rfl, _, _, _⟩ := hr
  go_enter Tryd.func4, Tryd.ntmps4
  go_wp2_with (first
    | (go_at_call 8; refine CN.out.mono ?_; rintro e w1 ⟨s, hs, rfl, hb⟩; have HS : Hid (PathS s 50 150) := hs; have HB : Hid (Below w.heap.size w w1) := hb; have hs1 : s.size ≤ 150 := hs.2; have hs2 : ¬ (200 < s.size) := (by omega); have hs3 : ¬ ((200 : Int) < (s.size : Int)) := (by omega); clear hs hb))
  all_goals
    go_ret
    exact ⟨s, HS.out, rfl, HB.out⟩
theorem bad_cell (w : World) (i : Nat) (hi : i < 7) : (w.alloc (.cells #[.string ⟨#[35]⟩, .string ⟨#[34, 97]⟩, .string ⟨#[36]⟩, .string ⟨#[36, 49]⟩, .string ⟨#[57, 57, 57, 57, 57, 57, 57, 57, 57, 57, 57, 57, 57, 57]⟩, .string ⟨#[97, 98, 99, 100, 101, 102, 103, 104, 105, 106, 107, 108, 109, 110, 111, 112, 113, 114, 115, 116, 117]⟩, .string ⟨#[37]⟩] 9)).cell? ⟨w.heap.size, i, none⟩ = some (.string ⟨(badL.getD i []).toArray⟩) := by
  have e : i = 0 ∨ i = 1 ∨ i = 2 ∨ i = 3 ∨ i = 4 ∨ i = 5 ∨ i = 6 := by omega
  rcases e with rfl | rfl | rfl | rfl | rfl | rfl | rfl <;> simp [badL]
theorem err_cell (w : World) (i : Nat) (hi : i < 7) : (w.alloc (.cells #[.int .i64 4, .int .i64 5, .int .i64 10, .int .i64 10, .int .i64 2, .int .i64 10, .int .i64 4] 25)).cell? ⟨w.heap.size, i, none⟩ = some (.int .i64 (badEL.getD i 0)) := by
  have e : i = 0 ∨ i = 1 ∨ i = 2 ∨ i = 3 ∨ i = 4 ∨ i = 5 ∨ i = 6 := by omega
  rcases e with rfl | rfl | rfl | rfl | rfl | rfl | rfl <;> simp [badEL]
theorem badL_len {i : Nat} (hi : i < 7) : (badL.getD i []).length ≤ 30 := by
  have : ∀ i : Fin 7, (badL.getD i []).length ≤ 30 := by decide
  exact this ⟨i, hi⟩
theorem many_cut : cutP (Lib.repeatL [49, 32] 200 ++ [49]) = 400 ∧ cutE (Lib.repeatL [49, 32] 200 ++ [49]) = 1 := by decide +kernel
def manyT : ByteArray := ⟨(Lib.repeatL [49, 32] 200).toArray⟩
theorem many_size : manyT.size = 400 := by decide +kernel
theorem many_list : (manyT ++ ⟨#[49]⟩).data.toList = Lib.repeatL [49, 32] 200 ++ [49] := by rw [data_appQ]; rfl
set_option maxHeartbeats 3200000 in
theorem lawCutBad (HN : NodesOk) (v : Value) (n : Nat) (X : Nat → Rw) (wh : Int) (w : World) (hr : RawsIs w v n X) (hf : RawsFine n X) (hw : i64 wh) (hT : Tabs w) (hm : MaxL w) (hM : MarkTab w) (hg : 0 < w.heap.size) :
    Calls Tryd.prog 3 #[v, .int .i64 wh] w fun e w' => e = .returned (.bool true) ∧ Below w.heap.size w w' := by
  have CP : Hid (Calls Tryd.prog 4 #[v] w fun e w' => ∃ s, PathS s 50 150 ∧ e = .returned (.string s) ∧ Below w.heap.size w w') := path_is HN v n X w hr hf
  obtain ⟨i, hi, hi7⟩ := pk_nat (n := wh) (m := 7) (by omega)
  have CK : Hid (∀ W, Calls Tryd.prog 5 #[.int .i64 wh, .int .i64 7] W fun e w' => e = .returned (.int .i64 i) ∧ W = w') := fun W => (picked_is wh 7 W hw (by omega) (by omega)).mono fun e w' ⟨k1, k2⟩ => ⟨by rw [k1]; exact ret_int hi, k2.symm⟩
  have hii : (i : Int) < 7 := by omega
  have CC : Hid (∀ W (s : ByteArray), Below w.heap.size w W → s.size ≤ maxLen → Calls Tryd.prog 6 #[.string s] W fun e w' => ∃ v, e = .returned (.tuple #[v, .int .i64 (cutP s.data.toList), .int .i64 (cutE s.data.toList)]) ∧ Below W.heap.size W w') := fun W s hW hs => (cut_is s W hs (Utf8Tabs_below hT hW) (hm.below hW) (hM.below hW hg) (Nat.lt_of_lt_of_le hg hW.size)).mono fun e w' ⟨v, k1, _, k3⟩ => ⟨v, k1, k3⟩
  have CR : Hid (∀ W, Calls Tryd.prog 7 #[.string ⟨#[49, 32]⟩, .int .i64 200] W fun e w' => e = .returned (.string manyT) ∧ Below W.heap.size W w') := fun W => Tryd.strings_Repeat_main ⟨#[49, 32]⟩ 200 W (by decide) (by decide) (by decide) (by decide)
  clear hi hw hT hm hM hg hr hf
  go_enter Tryd.func3, Tryd.ntmps3
  go_upto_region 4 with (first
    | (go_at_call 4; refine CP.out.mono ?_; rintro e w2 ⟨s, hs, rfl, hb2⟩; have HB2 : Hid (Below w.heap.size w w2) := hb2; have HS : Hid (PathS s 50 150) := hs; have hs1 : s.size ≤ 150 := hs.2; have hs2 : s.size + 1 ≤ 9223372036854775807 := (by omega); clear hs hb2))
  obtain ⟨z, hz⟩ : ∃ z : ByteArray, z = ⟨(badL.getD i []).toArray⟩ := ⟨_, rfl⟩
  obtain ⟨E, hE0⟩ : ∃ E : Int, E = badEL.getD i 0 := ⟨_, rfl⟩
  have hzl : z.size ≤ 30 := by rw [hz]; exact badL_len hi7
  have hA := bad_cell w2 i hi7
  have hE := err_cell (w2.alloc (.cells #[.string ⟨#[35]⟩, .string ⟨#[34, 97]⟩, .string ⟨#[36]⟩, .string ⟨#[36, 49]⟩, .string ⟨#[57, 57, 57, 57, 57, 57, 57, 57, 57, 57, 57, 57, 57, 57]⟩, .string ⟨#[97, 98, 99, 100, 101, 102, 103, 104, 105, 106, 107, 108, 109, 110, 111, 112, 113, 114, 115, 116, 117]⟩, .string ⟨#[37]⟩] 9)) i hi7
  rw [← hz] at hA
  rw [← hE0] at hE
  have HQ : Hid (cutP (s ++ ⟨#[32]⟩ ++ z).data.toList = s.size + 1 ∧ cutE (s ++ ⟨#[32]⟩ ++ z).data.toList = E) := by
    rw [data_appQ, data_appQ, hz, hE0]
    exact bad_cut HS.out.1 (by omega) (by have := HS.out.2; have e : s.data.toList.length = s.size := rfl; omega) hi7
  clear hz hE0
  obtain ⟨W3, hW3⟩ : ∃ W, W = (w2.alloc (.cells #[.string ⟨#[35]⟩, .string ⟨#[34, 97]⟩, .string ⟨#[36]⟩, .string ⟨#[36, 49]⟩, .string ⟨#[57, 57, 57, 57, 57, 57, 57, 57, 57, 57, 57, 57, 57, 57]⟩, .string ⟨#[97, 98, 99, 100, 101, 102, 103, 104, 105, 106, 107, 108, 109, 110, 111, 112, 113, 114, 115, 116, 117]⟩, .string ⟨#[37]⟩] 9)).alloc (.cells #[.int .i64 4, .int .i64 5, .int .i64 10, .int .i64 10, .int .i64 2, .int .i64 10, .int .i64 4] 25) := ⟨_, rfl⟩
  rw [← hW3]
  have hA3 : W3.cell? ⟨w2.heap.size, i, none⟩ = some (.string z) := by
    rw [hW3, World.cell?_of_block (Below.heap_alloc (w2.alloc (.cells #[.string ⟨#[35]⟩, .string ⟨#[34, 97]⟩, .string ⟨#[36]⟩, .string ⟨#[36, 49]⟩, .string ⟨#[57, 57, 57, 57, 57, 57, 57, 57, 57, 57, 57, 57, 57, 57]⟩, .string ⟨#[97, 98, 99, 100, 101, 102, 103, 104, 105, 106, 107, 108, 109, 110, 111, 112, 113, 114, 115, 116, 117]⟩, .string ⟨#[37]⟩] 9)) _ _ (by simp))]
    exact hA
  have hE3 : W3.cell? ⟨w2.heap.size + 1, i, none⟩ = some (.int .i64 E) := by
    rw [hW3]
    rw [show (w2.alloc (.cells #[.string ⟨#[35]⟩, .string ⟨#[34, 97]⟩, .string ⟨#[36]⟩, .string ⟨#[36, 49]⟩, .string ⟨#[57, 57, 57, 57, 57, 57, 57, 57, 57, 57, 57, 57, 57, 57]⟩, .string ⟨#[97, 98, 99, 100, 101, 102, 103, 104, 105, 106, 107, 108, 109, 110, 111, 112, 113, 114, 115, 116, 117]⟩, .string ⟨#[37]⟩] 9)).heap.size = w2.heap.size + 1 by simp] at hE
    exact hE
  have hz3 : W3.heap.size = w2.heap.size + 2 := by rw [hW3]; simp
  have HB3 : Hid (Below w.heap.size w W3) := by rw [hW3]; exact (HB2.out.alloc HB2.out.size _).alloc (by simp; have := HB2.out.size; omega) _
  clear hW3 hA hE
  have hlt0 : w2.heap.size < W3.heap.size := by omega
  have hlt1 : w2.heap.size + 1 < W3.heap.size := by omega
  have hsz1 : s.size + 1 + z.size ≤ 9223372036854775807 := by omega
  have C1 : Hid (Calls Tryd.prog 6 #[.string (s ++ ⟨#[32]⟩ ++ z)] W3 fun e w' => ∃ v, e = .returned (.tuple #[v, .int .i64 ((s.size + 1 : Nat) : Int), .int .i64 E]) ∧ Below W3.heap.size W3 w') := (CC.out W3 _ HB3.out (by rw [ByteArray.size_append, ByteArray.size_append]; have e1 : (⟨#[32]⟩ : ByteArray).size = 1 := rfl; unfold maxLen; omega)).mono fun e w' ⟨v, k1, k3⟩ => ⟨v, by rw [k1, HQ.out.1, HQ.out.2], k3⟩
  have C2 : Hid (∀ W, Below w.heap.size w W → Calls Tryd.prog 6 #[.string (manyT ++ ⟨#[49]⟩)] W fun e w' => ∃ v, e = .returned (.tuple #[v, .int .i64 400, .int .i64 1]) ∧ Below W.heap.size W w') := fun W hW => (CC.out W _ hW (by rw [ByteArray.size_append, many_size]; decide)).mono fun e w' ⟨v, k1, k3⟩ => ⟨v, by rw [k1, many_list, many_cut.1, many_cut.2]; rfl, k3⟩
  have hmz := many_size
  have HZ2 : Hid (w.heap.size ≤ w2.heap.size) := HB2.out.size
  clear hz3 HQ CC CP
  generalize manyT = mT at *
  go_wp2_with (first
    | (go_at_call 5; refine (CK.out _).mono ?_; rintro e w4 ⟨rfl, rfl⟩)
    | (go_at_call 7; refine (CR.out _).mono ?_; rintro e w6 ⟨rfl, hb6⟩; have hE6 := (hb6.cell (p := ⟨w2.heap.size + 1, i, none⟩) hlt5).trans hE5; have HB6 : Hid (Below w.heap.size w w6) := HB5.out.trans (hb6.mono HB5.out.size); have hlt6 := Nat.lt_of_lt_of_le hlt5 hb6.size; clear hb6)
    | (go_at_call 6; refine C1.out.mono ?_; rintro e w5 ⟨v5, rfl, hb5⟩; have hE5 := (hb5.cell (p := ⟨w2.heap.size + 1, i, none⟩) hlt1).trans hE3; have HB5 : Hid (Below w.heap.size w w5) := HB3.out.trans (hb5.mono HB3.out.size); have hlt5 : w2.heap.size + 1 < w5.heap.size := Nat.lt_of_lt_of_le hlt1 hb5.size; clear hb5 C1)
    | (go_at_call 6; refine (C2.out _ HB6.out).mono ?_; rintro e w7 ⟨v7, rfl, hb7⟩; have hE7 := (hb7.cell (p := ⟨w2.heap.size + 1, i, none⟩) hlt6).trans hE6; have HB7 : Hid (Below w.heap.size w w7) := HB6.out.trans (hb7.mono HB6.out.size); have hlt7 := Nat.lt_of_lt_of_le hlt6 hb7.size; clear hb7))
  all_goals
    go_ret
    exact ⟨ret_bool (by simp), HB7.out⟩
end Go.Proofs.YtapgjmnebdgabaaDoor
