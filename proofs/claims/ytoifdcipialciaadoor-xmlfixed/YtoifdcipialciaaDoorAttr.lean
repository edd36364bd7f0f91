/-
  CONTRACT of xml.checkAttr.
-/
import Derived.Test.YtoifdcipialciaaDoorSmall
import Derived.Deep.QuietTactic
import Derived.BigQuiet
namespace Go.Proofs.YtoifdcipialciaaDoor
open Go.RowKit

theorem twice_no {E : Nat → Ev} {nm : ByteArray} {j : Nat} (h : ¬ (E j).kind = 2) : twice E nm (j + 1) = false := by simp [twice, h]
theorem twice_hit {E : Nat → Ev} {nm : ByteArray} {j : Nat} (h : (E j).kind = 2) (he : ((E j).name.toList == nm.toList) = true) : twice E nm (j + 1) = true := by simp only [twice, if_pos h, he, Bool.true_or]
theorem twice_miss {E : Nat → Ev} {nm : ByteArray} {j : Nat} (h : (E j).kind = 2) (he : ((E j).name.toList == nm.toList) = false) : twice E nm (j + 1) = twice E nm j := by simp only [twice, if_pos h, he, Bool.false_or]
theorem below_drewN {B : Nat} {a w : World} (h : Below B a w) : ∀ q, Below B a (w.drewN q)
  | 0 => h
  | q + 1 => (below_drewN h q).drew

set_option maxHeartbeats 800000 in
theorem checkAttr_any (k : Int) (n v : ByteArray) (b off m cap : Nat) (E : Nat → Ev) (w : World) (hm : m < 400) (hE : EvsAt w b off (m + 1) E) (hb0 : b < w.heap.size) (h0 : (E 0).kind ≠ 2) :
    Calls Tryd.prog 32 #[.slice (some ⟨b, off, none⟩) (m + 1) cap, .agg #[.int .i64 k, .string n, .string v]] w fun e w' => e = .returned (.int .i64 (attrF E (m + 1) ⟨k, n, v⟩)) ∧ Below w.heap.size w w' := by
  have HE : Hid (EvsAt w b off (m + 1) E) := hE
  have H0 : Hid ((E 0).kind ≠ 2) := h0
  obtain ⟨e1, e2, e3⟩ := hE m (by omega)
  clear hE h0
  cases ht : inTagB (E m).kind
  · have HF : Hid (attrF E (m + 1) ⟨k, n, v⟩ = 4) := by show attrF E (m + 1) ⟨k, n, v⟩ = 4; simp [attrF, ht]
    go_enter Tryd.func32, Tryd.ntmps32
    go_wp2_with (first | (go_at_call 13; refine (inTag_any _ _ _ _).mono ?_; rintro e w1 ⟨rfl, hb⟩))
    go_ret
    exact ⟨ret_int HF.out.symm, ((Below.refl _ _).alloc (Nat.le_refl _) _).trans (hb.mono (by simp))⟩
  · have HF : Hid (attrF E (m + 1) ⟨k, n, v⟩ = if twice E n (m + 1) = true then 7 else 0) := by show attrF E (m + 1) ⟨k, n, v⟩ = _; simp [attrF, ht]
    go_enter Tryd.func32, Tryd.ntmps32
    go_wp2_with (first | (go_at_call 13; refine (inTag_any _ _ _ _).mono ?_; rintro e w1 ⟨rfl, hb⟩))
    have HB : Hid (Below (w.heap.size + 1) (w.alloc (.cells #[.int .i64 k, .string n, .string v] 31)) w1) := by
      have h2 : Below (w.heap.size + 1) (w.alloc (.cells #[.int .i64 k, .string n, .string v] 31)) w1 := by simpa using hb
      exact h2
    clear hb e1 e2 e3
    go_loopw [6] (fun i wr => ∃ j : Nat, j ≤ m ∧ i = .int .i64 j ∧ twice E n (m + 1) = twice E n (j + 1) ∧ Below (w.heap.size + 1) (w.alloc (.cells #[.int .i64 k, .string n, .string v] 31)) wr) (fun i _ => (intOf i).toNat)
    case atStart => exact ⟨m, Nat.le_refl _, rfl, rfl, HB.out⟩
    case round =>
      obtain ⟨j, hj, rfl, htw, hbr⟩ := hrel
      have HT : Hid (twice E n (m + 1) = twice E n (j + 1)) := htw
      have HBR : Hid (Below (w.heap.size + 1) (w.alloc (.cells #[.int .i64 k, .string n, .string v] 31)) wr) := hbr
      have hx : wr.cell? ⟨w.heap.size, 1, none⟩ = some (.string n) := (hbr.cell (p := ⟨w.heap.size, 1, none⟩) (by simp)).trans (by simp)
      obtain ⟨e1, e2, e3⟩ := (HE.out.below ((Below.refl w.heap.size w).alloc (Nat.le_refl _) (.cells #[.int .i64 k, .string n, .string v] 31)) hb0).below hbr (by omega) j (by omega)
      clear htw hbr
      have hji : (j : Int) < (m : Int) + 1 := by omega
      have hji2 : j < m + 1 := by omega
      cases hk : ((E j).kind == 2)
      · have HN : Hid (attrF E (m + 1) ⟨k, n, v⟩ = 0) := by
          have e : attrF E (m + 1) ⟨k, n, v⟩ = 0 := by rw [HF.out, HT.out, twice_no (by simpa using hk)]; rfl
          exact e
        go_wp2
        go_ret
        exact ⟨ret_int HN.out.symm, ((Below.refl _ _).alloc (Nat.le_refl _) _).trans (HBR.out.mono (by omega))⟩
      · have HK : Hid ((E j).kind = 2) := eq_of_beq hk
        cases hn : ((E j).name.toList == n.toList)
        · obtain ⟨i, rfl⟩ : ∃ i, j = i + 1 := by
            cases j with
            | zero => exact absurd HK.out H0.out
            | succ i => exact ⟨i, rfl⟩
          have HM : Hid (twice E n (m + 1) = twice E n (i + 1)) := by
            have e : twice E n (m + 1) = twice E n (i + 1) := by rw [HT.out, twice_miss HK.out hn]
            exact e
          go_wp2
          go_quiet (fail)
          go_wp2
          go_roundw
          case rel => exact ⟨i, by omega, by go_num, HM.out, below_drewN HBR.out _⟩
          case measure => simp [intOf]
        · have HN : Hid (attrF E (m + 1) ⟨k, n, v⟩ = 7) := by
            have e : attrF E (m + 1) ⟨k, n, v⟩ = 7 := by rw [HF.out, HT.out, twice_hit HK.out hn]; rfl
            exact e
          go_wp2
          go_quiet (fail)
          go_wp2
          go_ret
          exact ⟨ret_int HN.out.symm, ((Below.refl _ _).alloc (Nat.le_refl _) _).trans ((below_drewN HBR.out _).mono (by omega))⟩
end Go.Proofs.YtoifdcipialciaaDoor
