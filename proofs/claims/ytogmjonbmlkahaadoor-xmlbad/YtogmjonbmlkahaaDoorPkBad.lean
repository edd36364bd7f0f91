/-
  THE LAW XmlBad.
-/
import Derived.Test.YtogmjonbmlkahaaDoorPxParse
import Derived.Test.YtogmjonbmlkahaaDoorPkPick
set_option linter.unusedVariables false
namespace Go.Proofs.YtogmjonbmlkahaaDoor
set_option maxRecDepth 100000
open Go.RowKit

def badL : List ByteArray := [⟨#[60, 97, 62]⟩, ⟨#[60, 97, 62, 60, 47, 98, 62]⟩, ⟨#[60, 97, 32, 107, 61, 34, 49, 34, 32, 107, 61, 34, 50, 34, 47, 62]⟩, ⟨#[60, 97, 47, 62, 60, 97, 47, 62]⟩, ⟨#[97]⟩, ⟨#[60, 97, 62, 38, 120, 59, 60, 47, 97, 62]⟩, ⟨#[60, 49, 47, 62]⟩, ⟨#[60, 97, 32, 107, 61, 49, 47, 62]⟩, ⟨#[60, 97, 62, 60, 33, 45, 45, 32, 45, 45, 32, 45, 45, 62, 60, 47, 97, 62]⟩, ⟨#[60, 97, 32, 107, 61, 34, 60, 34, 47, 62]⟩, ⟨#[60, 32, 97, 47, 62]⟩, ⟨#[60, 97, 47, 32, 62]⟩]
def badEL : List Int := [5, 4, 7, 4, 4, 4, 4, 4, 4, 4, 4, 4]
def badT (i : Nat) : ByteArray := badL.getD i ⟨#[]⟩
def badE (i : Nat) : Int := badEL.getD i 0
theorem bad_all : ∀ i : Fin 12, (parseM (badT i)).1 = badE i := by decide +kernel
def okT (x y : Int) : ByteArray := ⟨#[60, 120]⟩ ++ strOfNums [97 + x, 97 + y] ++ ⟨#[47, 62]⟩
theorem ok_all : ∀ x y : Fin 5, (parseM (okT x y)).1 = 0 := by decide +kernel
theorem ok_at {x y : Int} (hx0 : 0 ≤ x) (hx : x < 5) (hy0 : 0 ≤ y) (hy : y < 5) : (parseM (okT x y)).1 = 0 := by
  have h := ok_all ⟨x.toNat, by omega⟩ ⟨y.toNat, by omega⟩
  simp only at h
  rw [Int.toNat_of_nonneg hx0, Int.toNat_of_nonneg hy0] at h
  exact h
theorem bad_cell (w : World) (i : Nat) (hi : i < 12) : (w.alloc (.cells #[.string ⟨#[60, 97, 62]⟩, .string ⟨#[60, 97, 62, 60, 47, 98, 62]⟩, .string ⟨#[60, 97, 32, 107, 61, 34, 49, 34, 32, 107, 61, 34, 50, 34, 47, 62]⟩, .string ⟨#[60, 97, 47, 62, 60, 97, 47, 62]⟩, .string ⟨#[97]⟩, .string ⟨#[60, 97, 62, 38, 120, 59, 60, 47, 97, 62]⟩, .string ⟨#[60, 49, 47, 62]⟩, .string ⟨#[60, 97, 32, 107, 61, 49, 47, 62]⟩, .string ⟨#[60, 97, 62, 60, 33, 45, 45, 32, 45, 45, 32, 45, 45, 62, 60, 47, 97, 62]⟩, .string ⟨#[60, 97, 32, 107, 61, 34, 60, 34, 47, 62]⟩, .string ⟨#[60, 32, 97, 47, 62]⟩, .string ⟨#[60, 97, 47, 32, 62]⟩] 9)).cell? ⟨w.heap.size, i, none⟩ = some (.string (badT i)) := by
  have e : i = 0 ∨ i = 1 ∨ i = 2 ∨ i = 3 ∨ i = 4 ∨ i = 5 ∨ i = 6 ∨ i = 7 ∨ i = 8 ∨ i = 9 ∨ i = 10 ∨ i = 11 := by omega
  rcases e with rfl | rfl | rfl | rfl | rfl | rfl | rfl | rfl | rfl | rfl | rfl | rfl <;> simp [badT, badL]
theorem err_cell (w : World) (i : Nat) (hi : i < 12) : (w.alloc (.cells #[.int .i64 5, .int .i64 4, .int .i64 7, .int .i64 4, .int .i64 4, .int .i64 4, .int .i64 4, .int .i64 4, .int .i64 4, .int .i64 4, .int .i64 4, .int .i64 4] 25)).cell? ⟨w.heap.size, i, none⟩ = some (.int .i64 (badE i)) := by
  have e : i = 0 ∨ i = 1 ∨ i = 2 ∨ i = 3 ∨ i = 4 ∨ i = 5 ∨ i = 6 ∨ i = 7 ∨ i = 8 ∨ i = 9 ∨ i = 10 ∨ i = 11 := by omega
  rcases e with rfl | rfl | rfl | rfl | rfl | rfl | rfl | rfl | rfl | rfl | rfl | rfl <;> simp [badE, badEL]
theorem badT_le (i : Nat) : (badT i).size ≤ 100 := by
  by_cases hi : i < 12
  · have e : i = 0 ∨ i = 1 ∨ i = 2 ∨ i = 3 ∨ i = 4 ∨ i = 5 ∨ i = 6 ∨ i = 7 ∨ i = 8 ∨ i = 9 ∨ i = 10 ∨ i = 11 := by omega
    rcases e with rfl | rfl | rfl | rfl | rfl | rfl | rfl | rfl | rfl | rfl | rfl | rfl <;> decide
  · unfold badT
    rw [List.getD_eq_getElem?_getD, List.getElem?_eq_none (by show 12 ≤ i; omega)]
    decide
theorem EscTab.all {w w' : World} (h : EscTab w) (hb : Below w.heap.size w w') : EscTab w' := by
  obtain ⟨t, fr, h⟩ := h
  exact ⟨t, fr, (hb.block _ (Array.getElem?_eq_some_iff.1 h).1).trans h⟩
set_option maxHeartbeats 3200000 in
theorem lawXmlBad (wh n : Int) (w : World) (hw : -9223372036854775808 ≤ wh ∧ wh ≤ 9223372036854775807) (hn : -9223372036854775808 ≤ n ∧ n ≤ 9223372036854775807) (ht : EscTab w) (hv : Env w) :
    Calls Tryd.prog 3 #[.int .i64 wh, .int .i64 n] w fun e w' => e = .returned (.bool true) ∧ Below w.heap.size w w' := by
  have HT : Hid (EscTab w) := ht
  have HV : Hid (Env w) := hv
  clear ht hv
  obtain ⟨S2, hS2⟩ : ∃ S, S = strOfNums [n % 256, n.tdiv 3 % 256] := ⟨_, rfl⟩
  have kc := run_convert_bytes_arg (P := Tryd.prog) (w.alloc (.cells #[.int .u8 (n % 256), .int .u8 (n.tdiv 3 % 256)] 5)) 23 5 Tryd.underlying23 Tryd.underlying5 w.heap.size 0 2 2 [n % 256, n.tdiv 3 % 256] rfl (fun i hi => by
    have h2 : i = 0 ∨ i = 1 := by omega
    rcases h2 with rfl | rfl <;> simp) 9 Tryd.underlying9
  rw [← hS2] at kc
  have hz2 : S2.size = 2 := by rw [hS2, strOfNums_size]; rfl
  clear hS2
  obtain ⟨x, hx⟩ : ∃ x, x = byteAt S2 0 % 5 := ⟨_, rfl⟩
  obtain ⟨y, hy⟩ : ∃ y, y = byteAt S2 1 % 5 := ⟨_, rfl⟩
  have hx0 : 0 ≤ x ∧ x < 5 := by omega
  have hy0 : 0 ≤ y ∧ y < 5 := by omega
  have CP : Hid (∀ W, Calls Tryd.prog 4 #[.string S2, .int .i64 2] W fun e w' => e = .returned (.string (strOfNums [97 + x, 97 + y])) ∧ Below W.heap.size W w') := fun W => by
    have h := plain_any S2 2 W (by unfold maxLen; omega) (by omega)
    rw [hz2, show plN S2 (min 2 2) = [97 + x, 97 + y] by rw [hx, hy]; rfl] at h
    exact h
  have HOK : Hid ((parseM (okT x y)).1 = 0) := ok_at hx0.1 hx0.2 hy0.1 hy0.2
  clear hx hy hx0 hy0
  have hpr := pk_range (n := wh) (many := 12) (by omega)
  obtain ⟨i, hi⟩ : ∃ i : Nat, pk wh 12 = i := ⟨(pk wh 12).toNat, by omega⟩
  have hi12 : i < 12 := by omega
  have hii : (i : Int) < 12 := by omega
  have CK : Hid (∀ W, Calls Tryd.prog 5 #[.int .i64 wh, .int .i64 12] W fun e w' => e = .returned (.int .i64 i) ∧ W = w') := fun W => by
    have h := picked_is wh 12 W hw (by omega) (by omega)
    rw [hi] at h
    exact h.mono fun e w' ⟨k1, k2⟩ => ⟨k1, k2.symm⟩
  have HBE : Hid ((parseM (badT i)).1 = badE i) := bad_all ⟨i, hi12⟩
  clear hi hpr
  go_enter Tryd.func3, Tryd.ntmps3
  go_upto_region 4 with (first
    | (go_at_call 4; refine (CP.out _).mono ?_; rintro e w2 ⟨rfl, hb2⟩; have HB2 : Hid (Below w.heap.size w w2) := ((Below.refl _ _).alloc (Nat.le_refl _) _).trans (hb2.mono (by simp)); clear hb2))
  have hA := bad_cell w2 i hi12
  have hE := err_cell (w2.alloc (.cells #[.string ⟨#[60, 97, 62]⟩, .string ⟨#[60, 97, 62, 60, 47, 98, 62]⟩, .string ⟨#[60, 97, 32, 107, 61, 34, 49, 34, 32, 107, 61, 34, 50, 34, 47, 62]⟩, .string ⟨#[60, 97, 47, 62, 60, 97, 47, 62]⟩, .string ⟨#[97]⟩, .string ⟨#[60, 97, 62, 38, 120, 59, 60, 47, 97, 62]⟩, .string ⟨#[60, 49, 47, 62]⟩, .string ⟨#[60, 97, 32, 107, 61, 49, 47, 62]⟩, .string ⟨#[60, 97, 62, 60, 33, 45, 45, 32, 45, 45, 32, 45, 45, 62, 60, 47, 97, 62]⟩, .string ⟨#[60, 97, 32, 107, 61, 34, 60, 34, 47, 62]⟩, .string ⟨#[60, 32, 97, 47, 62]⟩, .string ⟨#[60, 97, 47, 32, 62]⟩] 9)) i hi12
  obtain ⟨W3, hW3⟩ : ∃ W, W = (w2.alloc (.cells #[.string ⟨#[60, 97, 62]⟩, .string ⟨#[60, 97, 62, 60, 47, 98, 62]⟩, .string ⟨#[60, 97, 32, 107, 61, 34, 49, 34, 32, 107, 61, 34, 50, 34, 47, 62]⟩, .string ⟨#[60, 97, 47, 62, 60, 97, 47, 62]⟩, .string ⟨#[97]⟩, .string ⟨#[60, 97, 62, 38, 120, 59, 60, 47, 97, 62]⟩, .string ⟨#[60, 49, 47, 62]⟩, .string ⟨#[60, 97, 32, 107, 61, 49, 47, 62]⟩, .string ⟨#[60, 97, 62, 60, 33, 45, 45, 32, 45, 45, 32, 45, 45, 62, 60, 47, 97, 62]⟩, .string ⟨#[60, 97, 32, 107, 61, 34, 60, 34, 47, 62]⟩, .string ⟨#[60, 32, 97, 47, 62]⟩, .string ⟨#[60, 97, 47, 32, 62]⟩] 9)).alloc (.cells #[.int .i64 5, .int .i64 4, .int .i64 7, .int .i64 4, .int .i64 4, .int .i64 4, .int .i64 4, .int .i64 4, .int .i64 4, .int .i64 4, .int .i64 4, .int .i64 4] 25) := ⟨_, rfl⟩
  rw [← hW3]
  have hA3 : W3.cell? ⟨w2.heap.size, i, none⟩ = some (.string (badT i)) := by
    rw [hW3, World.cell?_of_block (Below.heap_alloc (w2.alloc (.cells #[.string ⟨#[60, 97, 62]⟩, .string ⟨#[60, 97, 62, 60, 47, 98, 62]⟩, .string ⟨#[60, 97, 32, 107, 61, 34, 49, 34, 32, 107, 61, 34, 50, 34, 47, 62]⟩, .string ⟨#[60, 97, 47, 62, 60, 97, 47, 62]⟩, .string ⟨#[97]⟩, .string ⟨#[60, 97, 62, 38, 120, 59, 60, 47, 97, 62]⟩, .string ⟨#[60, 49, 47, 62]⟩, .string ⟨#[60, 97, 32, 107, 61, 49, 47, 62]⟩, .string ⟨#[60, 97, 62, 60, 33, 45, 45, 32, 45, 45, 32, 45, 45, 62, 60, 47, 97, 62]⟩, .string ⟨#[60, 97, 32, 107, 61, 34, 60, 34, 47, 62]⟩, .string ⟨#[60, 32, 97, 47, 62]⟩, .string ⟨#[60, 97, 47, 32, 62]⟩] 9)) (.cells #[.int .i64 5, .int .i64 4, .int .i64 7, .int .i64 4, .int .i64 4, .int .i64 4, .int .i64 4, .int .i64 4, .int .i64 4, .int .i64 4, .int .i64 4, .int .i64 4] 25) w2.heap.size (by simp))]
    exact hA
  have hE3 : W3.cell? ⟨w2.heap.size + 1, i, none⟩ = some (.int .i64 (badE i)) := by
    rw [hW3]
    rw [show (w2.alloc (.cells #[.string ⟨#[60, 97, 62]⟩, .string ⟨#[60, 97, 62, 60, 47, 98, 62]⟩, .string ⟨#[60, 97, 32, 107, 61, 34, 49, 34, 32, 107, 61, 34, 50, 34, 47, 62]⟩, .string ⟨#[60, 97, 47, 62, 60, 97, 47, 62]⟩, .string ⟨#[97]⟩, .string ⟨#[60, 97, 62, 38, 120, 59, 60, 47, 97, 62]⟩, .string ⟨#[60, 49, 47, 62]⟩, .string ⟨#[60, 97, 32, 107, 61, 49, 47, 62]⟩, .string ⟨#[60, 97, 62, 60, 33, 45, 45, 32, 45, 45, 32, 45, 45, 62, 60, 47, 97, 62]⟩, .string ⟨#[60, 97, 32, 107, 61, 34, 60, 34, 47, 62]⟩, .string ⟨#[60, 32, 97, 47, 62]⟩, .string ⟨#[60, 97, 47, 32, 62]⟩] 9)).heap.size = w2.heap.size + 1 by simp] at hE
    exact hE
  have hz3 : W3.heap.size = w2.heap.size + 2 := by rw [hW3]; simp
  have HB3 : Hid (Below w.heap.size w W3) := by rw [hW3]; exact (HB2.out.alloc HB2.out.size _).alloc (by simp; have := HB2.out.size; omega) _
  clear hW3 hA hE
  have hlt0 : w2.heap.size < W3.heap.size := by omega
  have hlt1 : w2.heap.size + 1 < W3.heap.size := by omega
  have CB : Hid (Calls Tryd.prog 6 #[.string (badT i)] W3 fun e w' => ∃ ev, e = .returned (.tuple #[ev, .int .i64 (badE i)]) ∧ Below W3.heap.size W3 w') := (parse_is (badT i) W3 (by have := badT_le i; unfold maxLen; omega) (HT.out.all HB3.out) (HV.out.below HB3.out)).mono fun e w' ⟨ev, k1, _, k3⟩ => ⟨ev, by rw [← HBE.out]; exact k1, k3⟩
  have HZ2 : Hid (w.heap.size ≤ w2.heap.size) := HB2.out.size
  clear hz3 HBE
  go_wp2_with (first
    | (go_at_call 5; refine (CK.out _).mono ?_; rintro e w4 ⟨rfl, rfl⟩)
    | (go_at_call 6; refine CB.out.mono ?_; rintro e w5 ⟨ev, rfl, hb5⟩; have hE5 := (hb5.cell (p := ⟨w2.heap.size + 1, i, none⟩) hlt1).trans hE3; have HB5 : Hid (Below w.heap.size w w5) := HB3.out.trans (hb5.mono HB3.out.size); have hlt5 : w2.heap.size + 1 < w5.heap.size := Nat.lt_of_lt_of_le hlt1 hb5.size; have CO : Hid (Calls Tryd.prog 6 #[.string (okT x y)] w5 fun e w' => ∃ ev, e = .returned (.tuple #[ev, .int .i64 0]) ∧ Below w5.heap.size w5 w') := ((parse_is (okT x y) w5 (by show (⟨#[60, 120]⟩ ++ strOfNums [97 + x, 97 + y] ++ ⟨#[47, 62]⟩ : ByteArray).size ≤ maxLen; rw [ByteArray.size_append, ByteArray.size_append, strOfNums_size]; show 2 + 2 + 2 ≤ maxLen; unfold maxLen; omega) (HT.out.all HB5.out) (HV.out.below HB5.out)).mono fun e w' ⟨ev, k1, _, k3⟩ => ⟨ev, by rw [← HOK.out]; exact k1, k3⟩); clear hb5 CB)
    | (go_at_call 6; refine CO.out.mono ?_; rintro e w6 ⟨ev6, rfl, hb6⟩; have hE6 := (hb6.cell (p := ⟨w2.heap.size + 1, i, none⟩) hlt5).trans hE5; have HB6 : Hid (Below w.heap.size w w6) := HB5.out.trans (hb6.mono HB5.out.size); have hlt6 := Nat.lt_of_lt_of_le hlt5 hb6.size; clear hb6 CO))
  all_goals
    go_ret
    exact ⟨ret_bool (by simp), HB6.out⟩
end Go.Proofs.YtogmjonbmlkahaaDoor
