/-
  CONTRACTS: marks (read.firstMark, and the document's allMarks, hasText); the table of package read in memory.
-/
import Derived.Test.YteapocgpenokfaaGreatDoorRows
import Derived.Test.YteapocgpenokfaaGreatDoorTkPlain
import Derived.Test.YteapocgpenokfaaGreatDoorShelf
import Derived.WalkKit
import Derived.WalkSpells
import Derived.WalkLawsBesides
import Derived.Outline
import Derived.Laws.Rows
set_option linter.unusedVariables false
namespace Go.Proofs.YteapocgpenokfaaGreatDoor
set_option maxRecDepth 100000
open Go.RowKit

def mkS (k : Nat) : ByteArray := ⟨(mkAt k).toArray⟩
/-- the cells of the table -/
def mkCells : Array Value := #[.string ⟨#[58, 58]⟩, .string ⟨#[47, 47]⟩, .string ⟨#[46, 46]⟩, .string ⟨#[58, 61]⟩, .string ⟨#[33, 61]⟩, .string ⟨#[60, 61]⟩, .string ⟨#[62, 61]⟩, .string ⟨#[60, 60]⟩, .string ⟨#[62, 62]⟩, .string ⟨#[47]⟩, .string ⟨#[40]⟩, .string ⟨#[41]⟩, .string ⟨#[91]⟩, .string ⟨#[93]⟩, .string ⟨#[123]⟩, .string ⟨#[125]⟩, .string ⟨#[44]⟩, .string ⟨#[46]⟩, .string ⟨#[64]⟩, .string ⟨#[42]⟩, .string ⟨#[61]⟩, .string ⟨#[60]⟩, .string ⟨#[62]⟩, .string ⟨#[43]⟩, .string ⟨#[45]⟩, .string ⟨#[124]⟩]
def MarkTab (w : World) : Prop := ∃ t fr, w.heap[0]? = some (.cells mkCells t fr)
theorem MarkTab.below {w w' : World} {B : Nat} (h : MarkTab w) (hb : Below B w w') (hB : 0 < B) : MarkTab w' := by
  obtain ⟨t, fr, h⟩ := h
  exact ⟨t, fr, (hb.block 0 hB).trans h⟩
theorem MarkTab.heap {w w' : World} (h : MarkTab w) (e : w'.heap = w.heap) : MarkTab w' := by
  obtain ⟨t, fr, h⟩ := h
  exact ⟨t, fr, by rw [e]; exact h⟩
theorem mk_index : ∀ (k : Nat), k < 26 → ∀ w, (Instr.index 90 (.agg mkCells) (.int .i64 (k : Int))).run Tryz.prog w = .ok (.string (mkS k)) w := by
  intro k hk
  have : k = 0 ∨ k = 1 ∨ k = 2 ∨ k = 3 ∨ k = 4 ∨ k = 5 ∨ k = 6 ∨ k = 7 ∨ k = 8 ∨ k = 9 ∨ k = 10 ∨ k = 11 ∨ k = 12 ∨ k = 13 ∨ k = 14 ∨ k = 15 ∨ k = 16 ∨ k = 17 ∨ k = 18 ∨ k = 19 ∨ k = 20 ∨ k = 21 ∨ k = 22 ∨ k = 23 ∨ k = 24 ∨ k = 25 := by omega
  rcases this with rfl | rfl | rfl | rfl | rfl | rfl | rfl | rfl | rfl | rfl | rfl | rfl | rfl | rfl | rfl | rfl | rfl | rfl | rfl | rfl | rfl | rfl | rfl | rfl | rfl | rfl <;> exact fun _ => by kernel_rfl
theorem mkS_list (k : Nat) : (mkS k).data.toList = mkAt k := by simp [mkS]

set_option maxHeartbeats 1600000 in
theorem firstMark_any (s : ByteArray) (w : World) (hM : MarkTab w) :
    Calls Tryz.prog 25 #[.string s] w fun e w' => e = .returned (.string ⟨(fm s.data.toList).toArray⟩) ∧ w' = w := by
  obtain ⟨tt, fr, hg⟩ := hM
  have HG : Hid (w.heap[0]? = some (.cells mkCells tt fr)) := hg
  clear hg
  go_enter Tryz.func25, Tryz.ntmps25
  go_wp2_with (refine wpList_load_row rfl 90 _ rfl 0 rfl tt _ fr _ HG.out Tryz.underlying90 rfl (by kernel_rfl) ?_)
  go_loop [6] (fun i => ∃ k : Nat, k ≤ 26 ∧ i = .int .i64 k ∧ fm s.data.toList = fmFrom s.data.toList k) (fun i => 26 - (intOf i).toNat)
  case atStart => exact ⟨0, by omega, rfl, rfl⟩
  case round =>
    obtain ⟨k, hk, rfl, hno⟩ := hrel
    have HN : Hid (fm s.data.toList = fmFrom s.data.toList k) := hno
    clear hno
    by_cases hlt : k < 26
    · have hI := mk_index k hlt
      have HP : Hid (Calls Tryz.prog 11 #[.string s, .string (mkS k)] w fun e w' => e = .returned (.bool ((mkAt k).isPrefixOf s.data.toList)) ∧ w' = w) := by
        have := Tryz.strings_HasPrefix s (mkS k) w
        rw [mkS_list] at this
        exact this
      cases hp : (mkAt k).isPrefixOf s.data.toList
      · have HR : Hid (fm s.data.toList = fmFrom s.data.toList (k + 1)) := HN.out.trans (fmFrom_miss hlt hp)
        rw [hp] at HP
        clear hp
        go_wp2_with (go_at_call 11; refine HP.out.mono ?_; rintro e w' ⟨rfl, rfl⟩)
        go_round
        case rel => exact ⟨k + 1, by omega, by go_num, HR.out⟩
        case measure => simp [intOf]; omega
      · have HR : Hid (fm s.data.toList = mkAt k) := HN.out.trans (fmFrom_hit hlt hp)
        rw [hp] at HP
        clear hp
        go_wp2_with (go_at_call 11; refine HP.out.mono ?_; rintro e w' ⟨rfl, rfl⟩)
        go_ret
        exact ⟨by rw [HR.out]; rfl, rfl⟩
    · have e : k = 26 := by omega
      have HR : Hid (fm s.data.toList = []) := by rw [e] at HN; exact HN.out.trans (fmFrom_end _)
      have hki : ¬ ((k : Int) < 26) := by omega
      clear e hlt hk
      go_wp2
      go_ret
      exact ⟨by rw [HR.out]; rfl, rfl⟩

theorem bytes_eq_iff (a b : ByteArray) : (a.toList == b.toList) = true ↔ a = b := by
  rw [beq_iff_eq, ByteArray.toList_eq, ByteArray.toList_eq]
  constructor
  · intro h
    cases a; cases b
    simp only at h
    rw [Array.toList_inj.1 h]
  · rintro rfl; rfl
theorem bytes_ne {a b : ByteArray} (h : (a.toList == b.toList) = false) : a ≠ b := by
  rintro rfl
  simp at h
theorem isMk_hit {s : ByteArray} {k : Nat} (hk : k < 26) (h : ((mkS k).toList == s.toList) = true) : isMk s.data.toList = true := by
  have e : mkS k = s := (bytes_eq_iff _ _).1 h
  subst e
  rw [mkS_list]
  unfold isMk
  rw [List.contains_iff_mem]
  have h' : k < marksL.length := hk
  unfold mkAt
  rw [List.getD_eq_getElem?_getD, List.getElem?_eq_getElem h']
  exact List.getElem_mem h'
theorem isMk_miss {s : ByteArray} (h : ∀ k, k < 26 → ((mkS k).toList == s.toList) = false) : isMk s.data.toList = false := by
  cases e : isMk s.data.toList with
  | false => rfl
  | true =>
    unfold isMk at e
    rw [List.contains_iff_mem] at e
    obtain ⟨k, hk, hke⟩ := List.mem_iff_getElem.1 e
    have hk' : k < 26 := hk
    refine absurd ?_ (bytes_ne (h k hk'))
    unfold mkS mkAt
    rw [List.getD_eq_getElem?_getD, List.getElem?_eq_getElem hk]
    simp only [Option.getD_some, hke]

end Go.Proofs.YteapocgpenokfaaGreatDoor
