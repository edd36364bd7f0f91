/-
  CONTRACTS of xml.Escape, and of the document's answer to it: both return the escaped text; old memory is as it was.
-/
import Derived.Test.YtoifdcipialciaaDoorEsc
import Derived.Laws.Concat
set_option linter.unusedVariables false
namespace Go.Proofs.YtoifdcipialciaaDoor
open Go.RowKit

theorem take_snoc (s : ByteArray) (k : Nat) (h : k < s.size) : s.data.toList.take (k + 1) = s.data.toList.take k ++ [s[k]] := by
  rw [List.take_succ_eq_append_getElem (by simpa using h)]; rfl
theorem esc_succ (s : ByteArray) (k : Nat) (h : k < s.size) : escL (s.data.toList.take (k + 1)) = escL (s.data.toList.take k) ++ esc1 s[k] := by
  rw [take_snoc s k h, escL_snoc]
theorem esc_le (s : ByteArray) (k : Nat) (h : k ≤ s.size) : (escL (s.data.toList.take k)).length ≤ 6 * s.size := by
  have h1 := escL_len (s.data.toList.take k)
  have h2 : (s.data.toList.take k).length ≤ k := List.length_take_le _ _
  omega
theorem esc_all (s : ByteArray) : s.data.toList.take s.size = s.data.toList := List.take_of_length_le (Nat.le_refl _)

set_option maxHeartbeats 800000 in
theorem escape_any (s : ByteArray) (w : World) (hs : s.size ≤ 1099511627776) (ht : EscTab w) (h2 : 0 < w.heap.size) :
    Calls Tryd.prog 11 #[.string s] w fun e w' => e = .returned (.string ⟨(escL s.data.toList).toArray⟩) ∧ Below w.heap.size w w' := by
  have HT : Hid (EscTab w) := ht
  clear ht
  go_enter Tryd.func11, Tryd.ntmps11
  go_wp2
  go_loopw [7] (fun i wr => ∃ k : Nat, k ≤ s.size ∧ i = .int .i64 k ∧ Lib.IsBuilderF 41 5 w.heap.size w.heap.size (Lib.byteCells (escL (s.data.toList.take k))) wr ∧ Below w.heap.size w wr) (fun i _ => s.size - (intOf i).toNat)
  case atStart =>
    refine ⟨0, Nat.zero_le _, rfl, ?_, (Below.refl _ _).alloc (Nat.le_refl _) _⟩
    refine Lib.IsBuilderF.of (.inl ⟨Nat.le_refl _, .slice none 0 0, ?_, World.ownsRow_nil _ _ _ _, by simp [Value.ownBlock]⟩)
    exact heap_alloc_new _ _
  case round =>
    obtain ⟨k, hk, rfl, hbl, hbw⟩ := hrel
    have HBW : Hid (Below w.heap.size w wr) := hbw
    have hsz : w.heap.size ≤ wr.heap.size := hbw.size
    by_cases hlt : k < s.size
    · have CW : Hid (Calls Tryd.prog 20 #[.pointer (some ⟨w.heap.size, 0, none⟩), .int .u8 s[k].toNat] wr fun e w' => e = .returned (.tuple #[]) ∧ Lib.IsBuilderF 41 5 w.heap.size w.heap.size (Lib.byteCells (escL (s.data.toList.take (k + 1)))) w' ∧ Below w.heap.size wr w') := by
        rw [esc_succ s k hlt, Lib.byteCells_append]
        exact writeEscaped_any _ _ _ s[k] wr hbl (by have := esc_le s k hk; rw [Lib.byteCells_length]; omega) hsz (HT.out.below hbw h2)
      clear hbl hbw
      go_wp2_with (first | (go_at_call 20; refine CW.out.mono ?_; rintro e w1 ⟨rfl, hb1, hb2⟩))
      go_roundw
      case rel => exact ⟨k + 1, by omega, by go_num, hb1, HBW.out.trans hb2⟩
      case measure => simp [intOf]; omega
    · have hke : k = s.size := by omega
      have CS : Hid (Calls Tryd.prog 14 #[.pointer (some ⟨w.heap.size, 0, none⟩)] wr fun e w' => e = .returned (.string ⟨(escL s.data.toList).toArray⟩) ∧ Below w.heap.size wr w') := by
        have hx := Tryd.Builder_String_any_k w.heap.size w.heap.size (escL s.data.toList) wr (by rw [hke, esc_all] at hbl; exact hbl) hsz
        exact hx.mono fun e w' h => ⟨h.1, h.2.2.1⟩
      clear hbl hbw hke
      go_wp2_with (first | (go_at_call 14; refine CS.out.mono ?_; rintro e w1 ⟨rfl, hb2⟩))
      go_ret
      exact ⟨rfl, HBW.out.trans hb2⟩

theorem esc1_amp {c : UInt8} (h : c = 38) : esc1 c = [38, 97, 109, 112, 59] := by subst h; rfl
theorem esc1_lt {c : UInt8} (h : c = 60) : esc1 c = [38, 108, 116, 59] := by subst h; rfl
theorem esc1_gt {c : UInt8} (h : c = 62) : esc1 c = [38, 103, 116, 59] := by subst h; rfl
theorem esc1_quot {c : UInt8} (h : c = 34) : esc1 c = [38, 113, 117, 111, 116, 59] := by subst h; rfl
theorem esc1_else {c : UInt8} (h0 : ¬ c = 38) (h1 : ¬ c = 60) (h2 : ¬ c = 62) (h3 : ¬ c = 34) : esc1 c = [c] := by
  unfold esc1
  rw [if_neg h0, if_neg h1, if_neg h2, if_neg h3]
theorem eq_of_toNat {c : UInt8} {n : Nat} (d : UInt8) (hd : d.toNat = n) (h : ((c.toNat : Int) == (n : Int)) = true) : c = d := by
  apply UInt8.toNat_inj.1
  have : (c.toNat : Int) = (n : Int) := by simpa using h
  omega
theorem ne_of_toNat {c : UInt8} {n : Nat} (d : UInt8) (hd : d.toNat = n) (h : ((c.toNat : Int) == (n : Int)) = false) : ¬ c = d := by
  rintro rfl
  rw [hd] at h
  simp at h
theorem data_app (t u : ByteArray) : (t ++ u).data.toList = t.data.toList ++ u.data.toList := by
  rw [ByteArray.data_append, Array.toList_append]
theorem way_amp {s : ByteArray} {k : Nat} (hk : k < s.size) {t : ByteArray} (ht : t.data.toList = escL (s.data.toList.take k)) (h : ((s[k].toNat : Int) == 38) = true) : (t ++ ⟨#[38, 97, 109, 112, 59]⟩).data.toList = escL (s.data.toList.take (k + 1)) := by
  rw [data_app, esc_succ s k hk, ht, esc1_amp (eq_of_toNat 38 rfl h)]
theorem way_lt {s : ByteArray} {k : Nat} (hk : k < s.size) {t : ByteArray} (ht : t.data.toList = escL (s.data.toList.take k)) (h : ((s[k].toNat : Int) == 60) = true) : (t ++ ⟨#[38, 108, 116, 59]⟩).data.toList = escL (s.data.toList.take (k + 1)) := by
  rw [data_app, esc_succ s k hk, ht, esc1_lt (eq_of_toNat 60 rfl h)]
theorem way_gt {s : ByteArray} {k : Nat} (hk : k < s.size) {t : ByteArray} (ht : t.data.toList = escL (s.data.toList.take k)) (h : ((s[k].toNat : Int) == 62) = true) : (t ++ ⟨#[38, 103, 116, 59]⟩).data.toList = escL (s.data.toList.take (k + 1)) := by
  rw [data_app, esc_succ s k hk, ht, esc1_gt (eq_of_toNat 62 rfl h)]
theorem way_quot {s : ByteArray} {k : Nat} (hk : k < s.size) {t : ByteArray} (ht : t.data.toList = escL (s.data.toList.take k)) (h : ((s[k].toNat : Int) == 34) = true) : (t ++ ⟨#[38, 113, 117, 111, 116, 59]⟩).data.toList = escL (s.data.toList.take (k + 1)) := by
  rw [data_app, esc_succ s k hk, ht, esc1_quot (eq_of_toNat 34 rfl h)]
theorem way_else {s : ByteArray} {k : Nat} (hk : k < s.size) {t : ByteArray} (ht : t.data.toList = escL (s.data.toList.take k)) (h0 : ((s[k].toNat : Int) == 38) = false) (h1 : ((s[k].toNat : Int) == 60) = false) (h2 : ((s[k].toNat : Int) == 62) = false) (h3 : ((s[k].toNat : Int) == 34) = false) : (t ++ s.extract k (k + 1)).data.toList = escL (s.data.toList.take (k + 1)) := by
  rw [data_app, esc_succ s k hk, ht, esc1_else (ne_of_toNat 38 rfl h0) (ne_of_toNat 60 rfl h1) (ne_of_toNat 62 rfl h2) (ne_of_toNat 34 rfl h3), Lib.extract_data]
  congr 1
  have hk' : k < s.data.toList.length := hk
  rw [List.drop_eq_getElem_cons hk', show k + 1 - k = 1 by omega]
  rfl
theorem str_eq {a b : ByteArray} (h : a.data.toList = b.data.toList) : Ending.returned (.string a) = .returned (.string b) := by
  have : a = b := by
    cases a; cases b
    simpa using h
  rw [this]

end Go.Proofs.YtoifdcipialciaaDoor
