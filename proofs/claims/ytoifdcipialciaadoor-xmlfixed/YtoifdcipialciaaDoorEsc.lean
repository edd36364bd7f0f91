/-
  ESCAPING, PLAINLY; the table of package xml in memory.
-/
import Derived.Test.YtoifdcipialciaaDoorBuild
import Derived.Test.YtoifdcipialciaaDoorPlain
import Derived.Test.YtoifdcipialciaaDoorRows
import Derived.ProofKit
import Derived.OpenShut
import Derived.Lib.LaidU8
import Derived.ChangeSame
import Derived.Laws.Rows
import Derived.WalkKit
import Derived.WalkSpells
import Derived.WalkLawsBesides
import Derived.Outline
set_option linter.unusedVariables false
namespace Go.Proofs.YtoifdcipialciaaDoor
open Go.RowKit

/-- what stands for a byte -/
def esc1 (c : UInt8) : List UInt8 :=
  if c = 38 then [38, 97, 109, 112, 59] else if c = 60 then [38, 108, 116, 59] else if c = 62 then [38, 103, 116, 59] else if c = 34 then [38, 113, 117, 111, 116, 59] else [c]
def escL (l : List UInt8) : List UInt8 := l.flatMap esc1
theorem esc1_len (c : UInt8) : (esc1 c).length ≤ 6 := by
  unfold esc1
  repeat' split
  all_goals simp
theorem escL_len : ∀ l : List UInt8, (escL l).length ≤ 6 * l.length
  | [] => by simp [escL]
  | c :: l => by
    have := escL_len l
    have := esc1_len c
    simp [escL] at *
    omega
theorem escL_snoc (l : List UInt8) (c : UInt8) : escL (l ++ [c]) = escL l ++ esc1 c := by simp [escL]

def bstr (l : List UInt8) : Value := .string ⟨l.toArray⟩
/-- the cells of the table -/
abbrev escCells : Array Value := #[.int .u8 38, .string ⟨#[38, 97, 109, 112, 59]⟩, .int .u8 60, .string ⟨#[38, 108, 116, 59]⟩, .int .u8 62, .string ⟨#[38, 103, 116, 59]⟩, .int .u8 34, .string ⟨#[38, 113, 117, 111, 116, 59]⟩]
def EscTab (w : World) : Prop := ∃ t fr, w.heap[0]? = some (.cells escCells t fr)
theorem EscTab.below {w w' : World} {B : Nat} (h : EscTab w) (hb : Below B w w') (hB : 0 < B) : EscTab w' := by
  obtain ⟨t, fr, h⟩ := h
  exact ⟨t, fr, (hb.block 0 hB).trans h⟩

def tab (k : Nat) : UInt8 := if k = 0 then 38 else if k = 1 then 60 else if k = 2 then 62 else 34
theorem toNat_ne {c d : UInt8} (h : ¬ c = d) : (((d.toNat : Nat) : Int) == (c.toNat : Int)) = false := by
  rw [beq_eq_false_iff_ne]
  intro e
  exact h (UInt8.toNat_inj.1 (by omega))
theorem esc1_hit {k : Nat} (c : UInt8) (hk : k < 4) (h : c = tab k) : esc1 c = if k = 0 then [38, 97, 109, 112, 59] else if k = 1 then [38, 108, 116, 59] else if k = 2 then [38, 103, 116, 59] else [38, 113, 117, 111, 116, 59] := by
  subst h
  match k, hk with
  | 0, _ => rfl
  | 1, _ => rfl
  | 2, _ => rfl
  | 3, _ => rfl
theorem esc1_miss {c : UInt8} (h : ∀ j, j < 4 → ¬ c = tab j) : esc1 c = [c] := by
  have h0 : ¬ c = 38 := h 0 (by omega)
  have h1 : ¬ c = 60 := h 1 (by omega)
  have h2 : ¬ c = 62 := h 2 (by omega)
  have h3 : ¬ c = 34 := h 3 (by omega)
  unfold esc1
  rw [if_neg h0, if_neg h1, if_neg h2, if_neg h3]

set_option maxHeartbeats 1600000 in
theorem writeEscaped_any (B b : Nat) (bs : List Value) (c : UInt8) (w : World) (h : Lib.IsBuilderF 41 5 B b bs w) (hlen : bs.length + 6 ≤ 140737488355328) (hBw : B ≤ w.heap.size) (ht : EscTab w) :
    Calls Tryd.prog 20 #[.pointer (some ⟨b, 0, none⟩), .int .u8 c.toNat] w fun e w' => e = .returned (.tuple #[]) ∧ Lib.IsBuilderF 41 5 B b (bs ++ Lib.byteCells (esc1 c)) w' ∧ Below B w w' := by
  obtain ⟨tt, fr, hg⟩ := ht
  have HG : Hid (w.heap[0]? = some (.cells escCells tt fr)) := hg
  have i0 : ∀ w, (Instr.index 64 (.agg escCells) (.int .i64 0)).run Tryd.prog w = .ok (.agg #[.int .u8 38, .string ⟨#[38, 97, 109, 112, 59]⟩]) w := fun _ => by kernel_rfl
  have i1 : ∀ w, (Instr.index 64 (.agg escCells) (.int .i64 1)).run Tryd.prog w = .ok (.agg #[.int .u8 60, .string ⟨#[38, 108, 116, 59]⟩]) w := fun _ => by kernel_rfl
  have i2 : ∀ w, (Instr.index 64 (.agg escCells) (.int .i64 2)).run Tryd.prog w = .ok (.agg #[.int .u8 62, .string ⟨#[38, 103, 116, 59]⟩]) w := fun _ => by kernel_rfl
  have i3 : ∀ w, (Instr.index 64 (.agg escCells) (.int .i64 3)).run Tryd.prog w = .ok (.agg #[.int .u8 34, .string ⟨#[38, 113, 117, 111, 116, 59]⟩]) w := fun _ => by kernel_rfl
  have HB : Hid (Lib.IsBuilderF 41 5 B b bs w) := h
  clear hg h
  go_enter Tryd.func20, Tryd.ntmps20
  go_wp2_with (refine wpList_load_row rfl 64 _ rfl 0 rfl tt _ fr _ HG.out Tryd.underlying64 rfl (by kernel_rfl) ?_)
  go_loopw [7] (fun i wr => ∃ k : Nat, k ≤ 4 ∧ i = .int .i64 k ∧ (∀ j, j < k → ¬ c = tab j) ∧ Lib.IsBuilderF 41 5 B b bs wr ∧ Below B w wr) (fun i _ => 4 - (intOf i).toNat)
  case atStart => exact ⟨0, by omega, rfl, fun j hj => by omega, HB.out, Below.refl _ _⟩
  case round =>
    obtain ⟨k, hk, rfl, hno, hbl, hbw⟩ := hrel
    have HN : Hid (∀ j, j < k → ¬ c = tab j) := hno
    have HBL : Hid (Lib.IsBuilderF 41 5 B b bs wr) := hbl
    have HBW : Hid (Below B w wr) := hbw
    have hsz : B ≤ wr.heap.size := Nat.le_trans hBw hbw.size
    clear hno hbl hbw
    have hk4 : k = 0 ∨ k = 1 ∨ k = 2 ∨ k = 3 ∨ k = 4 := by omega
    rcases hk4 with rfl | rfl | rfl | rfl | rfl
    · by_cases hc : c = 38
      · have HE : Hid (esc1 c = [38, 97, 109, 112, 59]) := esc1_hit (k := 0) c (by omega) hc
        have hq : (((38 : Int)) == (c.toNat : Int)) = true := by subst hc; rfl
        clear hc
        go_wp2_with (first | (go_at_call 10; refine (Tryd.Builder_WriteString_k B b bs ⟨#[38, 97, 109, 112, 59]⟩ _ (HBL.out.alloc _) (by show bs.length + 5 ≤ _; omega) (by simp; omega)).mono ?_; rintro e w1 ⟨rfl, hb1, hb2, _⟩))
        refine bodyPost_ret (v := .tuple #[]) (by simp [results, Tryd.results20, go_sem]) rfl ?_
        exact ⟨rfl, by rw [HE.out]; exact .inr hb1, (HBW.out.alloc hsz _).trans hb2⟩
      · have hq : (((38 : Int)) == (c.toNat : Int)) = false := toNat_ne (d := 38) hc
        have HC : Hid (¬ c = tab 0) := hc
        clear hc
        go_wp2
        go_roundw
        case rel => exact ⟨0 + 1, by omega, by go_num, fun j hj => by
          by_cases e : j = 0
          · subst e; exact HC.out
          · exact HN.out j (by omega), HBL.out.alloc _, HBW.out.alloc hsz _⟩
        case measure => simp [intOf]
    · by_cases hc : c = 60
      · have HE : Hid (esc1 c = [38, 108, 116, 59]) := esc1_hit (k := 1) c (by omega) hc
        have hq : (((60 : Int)) == (c.toNat : Int)) = true := by subst hc; rfl
        clear hc
        go_wp2_with (first | (go_at_call 10; refine (Tryd.Builder_WriteString_k B b bs ⟨#[38, 108, 116, 59]⟩ _ (HBL.out.alloc _) (by show bs.length + 4 ≤ _; omega) (by simp; omega)).mono ?_; rintro e w1 ⟨rfl, hb1, hb2, _⟩))
        refine bodyPost_ret (v := .tuple #[]) (by simp [results, Tryd.results20, go_sem]) rfl ?_
        exact ⟨rfl, by rw [HE.out]; exact .inr hb1, (HBW.out.alloc hsz _).trans hb2⟩
      · have hq : (((60 : Int)) == (c.toNat : Int)) = false := toNat_ne (d := 60) hc
        have HC : Hid (¬ c = tab 1) := hc
        clear hc
        go_wp2
        go_roundw
        case rel => exact ⟨1 + 1, by omega, by go_num, fun j hj => by
          by_cases e : j = 1
          · subst e; exact HC.out
          · exact HN.out j (by omega), HBL.out.alloc _, HBW.out.alloc hsz _⟩
        case measure => simp [intOf]
    · by_cases hc : c = 62
      · have HE : Hid (esc1 c = [38, 103, 116, 59]) := esc1_hit (k := 2) c (by omega) hc
        have hq : (((62 : Int)) == (c.toNat : Int)) = true := by subst hc; rfl
        clear hc
        go_wp2_with (first | (go_at_call 10; refine (Tryd.Builder_WriteString_k B b bs ⟨#[38, 103, 116, 59]⟩ _ (HBL.out.alloc _) (by show bs.length + 4 ≤ _; omega) (by simp; omega)).mono ?_; rintro e w1 ⟨rfl, hb1, hb2, _⟩))
        refine bodyPost_ret (v := .tuple #[]) (by simp [results, Tryd.results20, go_sem]) rfl ?_
        exact ⟨rfl, by rw [HE.out]; exact .inr hb1, (HBW.out.alloc hsz _).trans hb2⟩
      · have hq : (((62 : Int)) == (c.toNat : Int)) = false := toNat_ne (d := 62) hc
        have HC : Hid (¬ c = tab 2) := hc
        clear hc
        go_wp2
        go_roundw
        case rel => exact ⟨2 + 1, by omega, by go_num, fun j hj => by
          by_cases e : j = 2
          · subst e; exact HC.out
          · exact HN.out j (by omega), HBL.out.alloc _, HBW.out.alloc hsz _⟩
        case measure => simp [intOf]
    · by_cases hc : c = 34
      · have HE : Hid (esc1 c = [38, 113, 117, 111, 116, 59]) := esc1_hit (k := 3) c (by omega) hc
        have hq : (((34 : Int)) == (c.toNat : Int)) = true := by subst hc; rfl
        clear hc
        go_wp2_with (first | (go_at_call 10; refine (Tryd.Builder_WriteString_k B b bs ⟨#[38, 113, 117, 111, 116, 59]⟩ _ (HBL.out.alloc _) (by show bs.length + 6 ≤ _; omega) (by simp; omega)).mono ?_; rintro e w1 ⟨rfl, hb1, hb2, _⟩))
        refine bodyPost_ret (v := .tuple #[]) (by simp [results, Tryd.results20, go_sem]) rfl ?_
        exact ⟨rfl, by rw [HE.out]; exact .inr hb1, (HBW.out.alloc hsz _).trans hb2⟩
      · have hq : (((34 : Int)) == (c.toNat : Int)) = false := toNat_ne (d := 34) hc
        have HC : Hid (¬ c = tab 3) := hc
        clear hc
        go_wp2
        go_roundw
        case rel => exact ⟨3 + 1, by omega, by go_num, fun j hj => by
          by_cases e : j = 3
          · subst e; exact HC.out
          · exact HN.out j (by omega), HBL.out.alloc _, HBW.out.alloc hsz _⟩
        case measure => simp [intOf]
    · have HE : Hid (esc1 c = [c]) := esc1_miss HN.out
      go_wp2_with (first | (go_at_call 36; refine (Tryd.Builder_WriteByte_k B b bs _ _ HBL.out (by omega) hsz).mono ?_; rintro e w1 ⟨rfl, hb1, hb2, _⟩))
      go_end0
      exact ⟨rfl, by rw [HE.out]; exact .inr hb1, HBW.out.trans hb2⟩
end Go.Proofs.YtoifdcipialciaaDoor
