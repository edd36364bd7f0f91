/-
  CONTRACTS of pleacherkeep.picked and pleacherkeep.plain (of one letter).
-/
import Derived.Test.YtfgiocpgeainjaaDoorKpRaw
import Derived.Test.YtfgiocpgeainjaaDoorTexts
import Derived.Laws.BytesArg
import Derived.WalkKit
import Derived.WalkSpells
import Derived.WalkLawsBesides
import Derived.Outline
set_option linter.unusedVariables false
namespace Go.Proofs.YtfgiocpgeainjaaDoor
set_option maxRecDepth 100000
open Go.RowKit Go.WideShapes

/-- the number that is picked -/
def pk (n many : Int) : Int := (if n < 0 then -(n + 1) else n).tmod many
theorem pk_range {n many : Int} (h0 : 0 < many) : 0 ≤ pk n many ∧ pk n many < many := by
  unfold pk
  have hx : 0 ≤ (if n < 0 then -(n + 1) else n) := by split <;> omega
  rw [Int.tmod_eq_emod_of_nonneg hx]
  exact ⟨Int.emod_nonneg _ (by omega), Int.emod_lt_of_pos _ h0⟩
set_option maxHeartbeats 400000 in
theorem picked_is (n many : Int) (w : World) (hn : i64 n) (h0 : 0 < many) (hm : many ≤ 9223372036854775807) :
    Calls Tryd.prog 6 #[.int .i64 n, .int .i64 many] w fun e w' => e = .returned (.int .i64 (pk n many)) ∧ w' = w := by
  obtain ⟨n1, n2⟩ := hn
  have hz : ¬ many = 0 := by omega
  have hz1 : (many == 0) = false := by simpa using hz
  have hm1 : ¬ many = -1 := by omega
  have hm2 : (many == -1) = false := by simpa using hm1
  have hr := pk_range (n := n) h0
  by_cases hlt : n < 0
  · have HP : Hid (pk n many = (-(n + 1)).tmod many) := by
      have h : pk n many = (-(n + 1)).tmod many := by unfold pk; rw [if_pos hlt]
      exact h
    go_enter Tryd.func6, Tryd.ntmps6
    go_wp2
    go_ret
    exact ⟨ret_int (by rw [HP.out, Int.neg_tmod]), rfl⟩
  · have HP : Hid (pk n many = n.tmod many) := by
      have h : pk n many = n.tmod many := by unfold pk; rw [if_neg hlt]
      exact h
    go_enter Tryd.func6, Tryd.ntmps6
    go_wp2
    go_ret
    exact ⟨ret_int (by rw [HP.out, Int.tmod_eq_emod_of_nonneg (by omega)]), rfl⟩
/-- a text of at most one small letter -/
def pl (t : ByteArray) : ByteArray := if t.size = 0 then ByteArray.empty else strOfNums [97 + byteAt t 0 % 5]
set_option maxHeartbeats 800000 in
theorem plain_is (t : ByteArray) (w : World) (ht : t.size ≤ maxLen) :
    Calls Tryd.prog 7 #[.string t, .int .i64 1] w fun e w' => e = .returned (.string (pl t)) ∧ Below w.heap.size w w' := by
  unfold maxLen at ht
  have kn := fun (W : World) (l c : Nat) => run_convert_bytes_nil (P := Tryd.prog) (w := W) 50 5 Tryd.underlying50 Tryd.underlying5 l c 9 Tryd.underlying9
  go_enter Tryd.func7, Tryd.ntmps7
  go_wp2
  go_loopw [5, 6] (fun v i wr => ∃ k : Nat, i = .int .i64 k ∧ ((k = 0 ∧ v = .slice none 0 0) ∨ (k = 1 ∧ 0 < t.size ∧ ∃ g cap, v = .slice (some ⟨g, 0, none⟩) 1 cap ∧ wr.cell? ⟨g, 0, none⟩ = some (.int .u8 (97 + byteAt t 0 % 5)))) ∧ Below w.heap.size w wr) (fun _ i _ => 1 - (intOf i).toNat)
  case atStart => exact ⟨0, rfl, .inl ⟨rfl, rfl⟩, Below.refl _ _⟩
  case round =>
    obtain ⟨k, rfl, hor, hbr⟩ := hrel
    have HBR : Hid (Below w.heap.size w wr) := hbr
    have hzr : w.heap.size ≤ wr.heap.size := hbr.size
    clear hbr
    rcases hor with ⟨rfl, rfl⟩ | ⟨rfl, hlt, g, cap, rfl, hcell⟩
    · rw [show ((0 : Nat) : Int) = 0 from rfl]
      by_cases h0 : t.size = 0
      · have HP : Hid (pl t = ByteArray.empty) := if_pos h0
        go_wp2
        go_ret
        exact ⟨by rw [HP.out]; rfl, HBR.out⟩
      · have hlt : 0 < t.size := by omega
        have HE : Hid ((t[0].toNat : Int) = byteAt t 0) := byteAt_eq t 0 hlt
        go_wp2
        go_roundw
        case rel => exact ⟨1, rfl, .inr ⟨rfl, hlt, _, _, rfl, by rw [← HE.out]; simp [Array.getElem?_append]⟩, ((HBR.out.alloc hzr _).alloc (by simp; omega) _).drew⟩
        case measure => simp [intOf]
    · have HP : Hid (pl t = strOfNums [97 + byteAt t 0 % 5]) := if_neg (by omega)
      have kc := run_convert_bytes_arg (P := Tryd.prog) (w := wr) 50 5 Tryd.underlying50 Tryd.underlying5 g 0 1 cap [97 + byteAt t 0 % 5] rfl (fun i hi => by obtain rfl : i = 0 := (by omega); exact hcell) 9 Tryd.underlying9
      rw [show ((1 : Nat) : Int) = 1 from rfl]
      go_wp2
      all_goals
        go_ret
        exact ⟨by rw [HP.out]; rfl, HBR.out⟩
end Go.Proofs.YtfgiocpgeainjaaDoor
