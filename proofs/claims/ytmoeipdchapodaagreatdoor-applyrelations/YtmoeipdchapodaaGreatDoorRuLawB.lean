/-
  THE LAW ApplyNumbers: the four values.
-/
import Derived.Test.YtmoeipdchapodaaGreatDoorRuVl
import Derived.Deep.RegionHeld3
import Derived.Shelf.SlSortCmp.QuietGrown
set_option linter.unusedVariables false
namespace Go.Proofs.YtmoeipdchapodaaGreatDoor
set_option maxRecDepth 100000
open Go.RowKit Go.WideShapes

theorem Answers.below {w w' : World} {fn : ByteArray} {x y r : It} {E : Int} (h : Answers w fn x y r E) (hb : Below w.heap.size w w') : Answers w' fn x y r E := fun W pb cb qb rb ib rcap hW => h W pb cb qb rb ib rcap (hb.trans (hW.mono hb.size))
theorem two_six {w : World} {g : Nat} {x y : It} {T : TypeId} (h : w.heap[g]? = some (.cells #[.int .i64 x.kind, .int .i64 x.n, .string x.s, .int .i64 y.kind, .int .i64 y.n, .string y.s] T)) : TwoAt w g 0 x y := by
  obtain ⟨c0, c1, c2, c3, c4, c5, _, _, _, _, _, _, hz⟩ := blk6 h
  exact ⟨c0, c1, c2, c3, c4, c5, hz⟩
/-- pleacherkeep.value at a list that was just made -/
def ValueAt (w : World) (fn : ByteArray) (x y r : It) (E : Int) : Prop :=
  ∀ W g, Below w.heap.size w W → W.heap[g]? = some (.cells #[.int .i64 x.kind, .int .i64 x.n, .string x.s, .int .i64 y.kind, .int .i64 y.n, .string y.s] 24) → Calls Tryz.prog 6 #[.string fn, .slice (some ⟨g, 0, none⟩) 2 2] W fun e w' => e = .returned (.tuple #[.agg #[.int .i64 r.kind, .int .i64 r.n, .string r.s], .int .i64 E]) ∧ Below W.heap.size W w'
theorem value_at {w : World} {fn : ByteArray} {x y r : It} {E : Int} (hfs : fn.size ≤ maxLen) (hsx : x.s.size ≤ maxLen) (hsy : y.s.size ≤ maxLen) (ha : Answers w fn x y r E) : ValueAt w fn x y r E :=
  fun W g hW hg => value_is fn g 0 2 x y r E W hfs hsx hsy (two_six hg) (Nat.le_refl _) (by unfold maxLen; omega) (ha.below hW)
/-- the four values, and what is said of them -/
structure Four (w : World) (X Y : Int) (S B Q R : It) (E1 E2 E3 E4 : Int) : Prop where
  v1 : ValueAt w ⟨#[43]⟩ (numI X) (numI Y) S E1
  v2 : ValueAt w ⟨#[45]⟩ S (numI Y) B E2
  v3 : ValueAt w ⟨#[100, 105, 118]⟩ (numI X) (numI Y) Q E3
  v4 : ValueAt w ⟨#[109, 111, 100]⟩ (numI X) (numI Y) R E4
  big : 1099511627776 < X + Y → E1 = 12
  none_ : ¬ 1099511627776 < X + Y → Y = 0 → E1 = 0 ∧ E3 = 12 ∧ E4 = 12
  some_ : ¬ 1099511627776 < X + Y → ¬ Y = 0 → E1 = 0 ∧ E2 = 0 ∧ E3 = 0 ∧ E4 = 0 ∧ B = numI X ∧ Q.n * Y + R.n = X ∧ -1099511627776 ≤ R.n ∧ R.n ≤ 1099511627776
theorem four_are {w : World} (hw : RunEnv w) {X Y : Int} (hX : 0 ≤ X ∧ X ≤ 1099511627776) (hY : -549755813888 ≤ Y ∧ Y ≤ 549755813888) : ∃ S B Q R E1 E2 E3 E4, Four w X Y S B Q R E1 E2 E3 E4 := by
  have bX : -1099511627776 ≤ X ∧ X ≤ 1099511627776 := by omega
  have bY : -1099511627776 ≤ Y ∧ Y ≤ 1099511627776 := by omega
  have f1 : (⟨#[43]⟩ : ByteArray).size ≤ maxLen := by decide
  have f2 : (⟨#[45]⟩ : ByteArray).size ≤ maxLen := by decide
  have f3 : (⟨#[100, 105, 118]⟩ : ByteArray).size ≤ maxLen := by decide
  have f4 : (⟨#[109, 111, 100]⟩ : ByteArray).size ≤ maxLen := by decide
  have n0 : noI.s.size ≤ maxLen := by decide
  by_cases h0 : Y = 0
  · have hs : -1099511627776 ≤ X + Y ∧ X + Y ≤ 1099511627776 := by omega
    have hd : -1099511627776 ≤ X + Y - Y ∧ X + Y - Y ≤ 1099511627776 := by omega
    refine ⟨numI (X + Y), numI (X + Y - Y), noI, noI, 0, 0, 12, 12, value_at f1 (num_size _) (num_size _) (ans_plus hw bX bY hs), value_at f2 (num_size _) (num_size _) (ans_minus hw hs bY hd), ?_, ?_, fun h => by omega, fun _ _ => ⟨rfl, rfl, rfl⟩, fun _ h => absurd h0 h⟩
    · rw [h0]; exact value_at f3 (num_size _) (num_size _) (ans_quot_no hw bX)
    · rw [h0]; exact value_at f4 (num_size _) (num_size _) (ans_rem_no hw bX)
  · have q := value_at f3 (num_size _) (num_size _) (ans_quot hw bX bY h0)
    have r := value_at f4 (num_size _) (num_size _) (ans_rem hw bX bY h0)
    by_cases hb : 1099511627776 < X + Y
    · have hs : ¬ (-1099511627776 ≤ X + Y ∧ X + Y ≤ 1099511627776) := by omega
      exact ⟨noI, noI, _, _, 12, 12, 0, 0, value_at f1 (num_size _) (num_size _) (ans_plus_no hw bX bY hs), value_at f2 n0 (num_size _) (ans_minus_no hw Y), q, r, fun _ => rfl, fun h => absurd hb h, fun h => absurd hb h⟩
    · have hs : -1099511627776 ≤ X + Y ∧ X + Y ≤ 1099511627776 := by omega
      have hd : -1099511627776 ≤ X + Y - Y ∧ X + Y - Y ≤ 1099511627776 := by omega
      refine ⟨numI (X + Y), numI (X + Y - Y), _, _, 0, 0, 0, 0, value_at f1 (num_size _) (num_size _) (ans_plus hw bX bY hs), value_at f2 (num_size _) (num_size _) (ans_minus hw hs bY hd), q, r, fun h => absurd h hb, fun _ h => absurd h h0, fun _ _ => ⟨rfl, rfl, rfl, rfl, by rw [show X + Y - Y = X by omega], ?_, (tmod_in bX).1, (tmod_in bX).2⟩⟩
      show X.tdiv Y * Y + X.tmod Y = X
      rw [Int.mul_comm]
      exact Int.mul_tdiv_add_tmod X Y
theorem grow_below (w : World) (n : Nat) (os : Array Obj) : Below w.heap.size w (Go.Sort.grow (w.drewN n) os) := ⟨rfl, rfl, rfl, by simp [Go.Sort.grow, World.drewN], fun k hk => by simp only [Go.Sort.grow, World.drewN]; rw [Array.getElem?_append_left hk]⟩
theorem pk_in {a m : Int} (h : 0 < m) : 0 ≤ pk a m ∧ pk a m ≤ m - 1 := by
  have := pk_range (n := a) h
  omega
end Go.Proofs.YtmoeipdchapodaaGreatDoor
