/-
  CONTRACT: how many arguments a function of items has (the document's fnArgs).
-/
import Derived.Test.YtkcejelmohameaaGreatDoorRlCrossI
import Derived.Test.YtkcejelmohameaaGreatDoorRcBase
set_option linter.unusedVariables false
namespace Go.Proofs.YtkcejelmohameaaGreatDoor
set_option maxRecDepth 100000
open Go.RowKit Go.WideShapes

theorem fnArgs_0 (w : World) : Calls Tryz.prog 74 #[.string ⟨#[104, 111, 108, 100, 115]⟩] w fun e w' => e = .returned (.int .i64 3) ∧ w' = w := by
  go_enter Tryz.func74, Tryz.ntmps74
  go_wp2
  go_ret
  exact ⟨rfl, rfl⟩
theorem fnArgs_1 (w : World) : Calls Tryz.prog 74 #[.string ⟨#[101, 98, 118]⟩] w fun e w' => e = .returned (.int .i64 2) ∧ w' = w := by
  go_enter Tryz.func74, Tryz.ntmps74
  go_wp2
  go_ret
  exact ⟨rfl, rfl⟩
theorem fnArgs_2 (w : World) : Calls Tryz.prog 74 #[.string ⟨#[111, 114]⟩] w fun e w' => e = .returned (.int .i64 2) ∧ w' = w := by
  go_enter Tryz.func74, Tryz.ntmps74
  go_wp2
  go_ret
  exact ⟨rfl, rfl⟩
theorem fnArgs_3 (w : World) : Calls Tryz.prog 74 #[.string ⟨#[97, 110, 100]⟩] w fun e w' => e = .returned (.int .i64 2) ∧ w' = w := by
  go_enter Tryz.func74, Tryz.ntmps74
  go_wp2
  go_ret
  exact ⟨rfl, rfl⟩
theorem fnArgs_4 (w : World) : Calls Tryz.prog 74 #[.string ⟨#[110, 111, 116]⟩] w fun e w' => e = .returned (.int .i64 1) ∧ w' = w := by
  go_enter Tryz.func74, Tryz.ntmps74
  go_wp2
  go_ret
  exact ⟨rfl, rfl⟩
theorem fnArgs_5 (w : World) : Calls Tryz.prog 74 #[.string ⟨#[62, 62]⟩] w fun e w' => e = .returned (.int .i64 2) ∧ w' = w := by
  go_enter Tryz.func74, Tryz.ntmps74
  go_wp2
  go_ret
  exact ⟨rfl, rfl⟩
theorem fnArgs_6 (w : World) : Calls Tryz.prog 74 #[.string ⟨#[60, 60]⟩] w fun e w' => e = .returned (.int .i64 2) ∧ w' = w := by
  go_enter Tryz.func74, Tryz.ntmps74
  go_wp2
  go_ret
  exact ⟨rfl, rfl⟩
theorem fnArgs_7 (w : World) : Calls Tryz.prog 74 #[.string ⟨#[105, 115]⟩] w fun e w' => e = .returned (.int .i64 2) ∧ w' = w := by
  go_enter Tryz.func74, Tryz.ntmps74
  go_wp2
  go_ret
  exact ⟨rfl, rfl⟩
theorem fnArgs_8 (w : World) : Calls Tryz.prog 74 #[.string ⟨#[62, 61]⟩] w fun e w' => e = .returned (.int .i64 2) ∧ w' = w := by
  go_enter Tryz.func74, Tryz.ntmps74
  go_wp2
  go_ret
  exact ⟨rfl, rfl⟩
theorem fnArgs_9 (w : World) : Calls Tryz.prog 74 #[.string ⟨#[62]⟩] w fun e w' => e = .returned (.int .i64 2) ∧ w' = w := by
  go_enter Tryz.func74, Tryz.ntmps74
  go_wp2
  go_ret
  exact ⟨rfl, rfl⟩
theorem fnArgs_10 (w : World) : Calls Tryz.prog 74 #[.string ⟨#[60, 61]⟩] w fun e w' => e = .returned (.int .i64 2) ∧ w' = w := by
  go_enter Tryz.func74, Tryz.ntmps74
  go_wp2
  go_ret
  exact ⟨rfl, rfl⟩
theorem fnArgs_11 (w : World) : Calls Tryz.prog 74 #[.string ⟨#[60]⟩] w fun e w' => e = .returned (.int .i64 2) ∧ w' = w := by
  go_enter Tryz.func74, Tryz.ntmps74
  go_wp2
  go_ret
  exact ⟨rfl, rfl⟩
theorem fnArgs_12 (w : World) : Calls Tryz.prog 74 #[.string ⟨#[33, 61]⟩] w fun e w' => e = .returned (.int .i64 2) ∧ w' = w := by
  go_enter Tryz.func74, Tryz.ntmps74
  go_wp2
  go_ret
  exact ⟨rfl, rfl⟩
theorem fnArgs_13 (w : World) : Calls Tryz.prog 74 #[.string ⟨#[61]⟩] w fun e w' => e = .returned (.int .i64 2) ∧ w' = w := by
  go_enter Tryz.func74, Tryz.ntmps74
  go_wp2
  go_ret
  exact ⟨rfl, rfl⟩
theorem fnArgs_14 (w : World) : Calls Tryz.prog 74 #[.string ⟨#[115, 117, 98, 115, 116, 114, 105, 110, 103]⟩] w fun e w' => e = .returned (.int .i64 3) ∧ w' = w := by
  go_enter Tryz.func74, Tryz.ntmps74
  go_wp2
  go_ret
  exact ⟨rfl, rfl⟩
theorem fnArgs_15 (w : World) : Calls Tryz.prog 74 #[.string ⟨#[115, 116, 97, 114, 116, 115]⟩] w fun e w' => e = .returned (.int .i64 2) ∧ w' = w := by
  go_enter Tryz.func74, Tryz.ntmps74
  go_wp2
  go_ret
  exact ⟨rfl, rfl⟩
theorem fnArgs_16 (w : World) : Calls Tryz.prog 74 #[.string ⟨#[99, 111, 110, 116, 97, 105, 110, 115]⟩] w fun e w' => e = .returned (.int .i64 2) ∧ w' = w := by
  go_enter Tryz.func74, Tryz.ntmps74
  go_wp2
  go_ret
  exact ⟨rfl, rfl⟩
theorem fnArgs_17 (w : World) : Calls Tryz.prog 74 #[.string ⟨#[99, 111, 110, 99, 97, 116]⟩] w fun e w' => e = .returned (.int .i64 2) ∧ w' = w := by
  go_enter Tryz.func74, Tryz.ntmps74
  go_wp2
  go_ret
  exact ⟨rfl, rfl⟩
theorem fnArgs_18 (w : World) : Calls Tryz.prog 74 #[.string ⟨#[108, 101, 110, 103, 116, 104]⟩] w fun e w' => e = .returned (.int .i64 1) ∧ w' = w := by
  go_enter Tryz.func74, Tryz.ntmps74
  go_wp2
  go_ret
  exact ⟨rfl, rfl⟩
theorem fnArgs_19 (w : World) : Calls Tryz.prog 74 #[.string ⟨#[115, 112, 97, 110]⟩] w fun e w' => e = .returned (.int .i64 2) ∧ w' = w := by
  go_enter Tryz.func74, Tryz.ntmps74
  go_wp2
  go_ret
  exact ⟨rfl, rfl⟩
theorem fnArgs_20 (w : World) : Calls Tryz.prog 74 #[.string ⟨#[109, 111, 100]⟩] w fun e w' => e = .returned (.int .i64 2) ∧ w' = w := by
  go_enter Tryz.func74, Tryz.ntmps74
  go_wp2
  go_ret
  exact ⟨rfl, rfl⟩
theorem fnArgs_21 (w : World) : Calls Tryz.prog 74 #[.string ⟨#[100, 105, 118]⟩] w fun e w' => e = .returned (.int .i64 2) ∧ w' = w := by
  go_enter Tryz.func74, Tryz.ntmps74
  go_wp2
  go_ret
  exact ⟨rfl, rfl⟩
theorem fnArgs_22 (w : World) : Calls Tryz.prog 74 #[.string ⟨#[42]⟩] w fun e w' => e = .returned (.int .i64 2) ∧ w' = w := by
  go_enter Tryz.func74, Tryz.ntmps74
  go_wp2
  go_ret
  exact ⟨rfl, rfl⟩
theorem fnArgs_23 (w : World) : Calls Tryz.prog 74 #[.string ⟨#[45]⟩] w fun e w' => e = .returned (.int .i64 2) ∧ w' = w := by
  go_enter Tryz.func74, Tryz.ntmps74
  go_wp2
  go_ret
  exact ⟨rfl, rfl⟩
theorem fnArgs_24 (w : World) : Calls Tryz.prog 74 #[.string ⟨#[43]⟩] w fun e w' => e = .returned (.int .i64 2) ∧ w' = w := by
  go_enter Tryz.func74, Tryz.ntmps74
  go_wp2
  go_ret
  exact ⟨rfl, rfl⟩
theorem fnArgs_25 (w : World) : Calls Tryz.prog 74 #[.string ⟨#[110, 101, 103]⟩] w fun e w' => e = .returned (.int .i64 1) ∧ w' = w := by
  go_enter Tryz.func74, Tryz.ntmps74
  go_wp2
  go_ret
  exact ⟨rfl, rfl⟩
theorem fnArgs_26 (w : World) : Calls Tryz.prog 74 #[.string ⟨#[111, 110, 101]⟩] w fun e w' => e = .returned (.int .i64 1) ∧ w' = w := by
  go_enter Tryz.func74, Tryz.ntmps74
  go_wp2
  go_ret
  exact ⟨rfl, rfl⟩
theorem fnArgs_27 (w : World) : Calls Tryz.prog 74 #[.string ⟨#[105, 110, 116, 101, 103, 101, 114]⟩] w fun e w' => e = .returned (.int .i64 1) ∧ w' = w := by
  go_enter Tryz.func74, Tryz.ntmps74
  go_wp2
  go_ret
  exact ⟨rfl, rfl⟩
theorem fnArgs_28 (w : World) : Calls Tryz.prog 74 #[.string ⟨#[115, 116, 114, 105, 110, 103]⟩] w fun e w' => e = .returned (.int .i64 1) ∧ w' = w := by
  go_enter Tryz.func74, Tryz.ntmps74
  go_wp2
  go_ret
  exact ⟨rfl, rfl⟩
theorem fnArgs_29 (w : World) : Calls Tryz.prog 74 #[.string ⟨#[110, 97, 109, 101]⟩] w fun e w' => e = .returned (.int .i64 1) ∧ w' = w := by
  go_enter Tryz.func74, Tryz.ntmps74
  go_wp2
  go_ret
  exact ⟨rfl, rfl⟩
theorem fnArgs_30 (w : World) : Calls Tryz.prog 74 #[.string ⟨#[110, 111, 100, 101]⟩] w fun e w' => e = .returned (.int .i64 1) ∧ w' = w := by
  go_enter Tryz.func74, Tryz.ntmps74
  go_wp2
  go_ret
  exact ⟨rfl, rfl⟩
theorem fnArgs_31 (w : World) : Calls Tryz.prog 74 #[.string ⟨#[100, 97, 116, 97]⟩] w fun e w' => e = .returned (.int .i64 1) ∧ w' = w := by
  go_enter Tryz.func74, Tryz.ntmps74
  go_wp2
  go_ret
  exact ⟨rfl, rfl⟩
theorem bytesQ {a b : ByteArray} (h : (a.toList == b.toList) = true) : a = b := by
  have h' := eq_of_beq h
  rw [ByteArray.toList_eq, ByteArray.toList_eq] at h'
  cases a; cases b
  congr 1
  exact Array.toList_inj.1 h'
theorem lit_noQ {x y : ByteArray} {k : Int} {l : List UInt8} (h : fnT.find? (fun e => e.1.toList == x.toList) = none) (hy : (y, k) ∈ fnT) (hl : y.data.toList = l) : (x.toList == l) = false := by
  have hl' : y.toList = l := by rw [ByteArray.toList_eq]; exact hl
  rw [← hl']
  have h1 := List.find?_eq_none.1 h (y, k) hy
  cases e : (x.toList == y.toList)
  · rfl
  · exact absurd (by rw [bytesQ e]; exact beq_self_eq_true _) h1
set_option maxHeartbeats 1600000 in
theorem fnArgs_no (s : ByteArray) (w : World) (h : fnT.find? (fun e => e.1.toList == s.toList) = none) : Calls Tryz.prog 74 #[.string s] w fun e w' => e = .returned (.int .i64 (-1)) ∧ w' = w := by
  have g0 : (s.toList == [104, 111, 108, 100, 115]) = false := lit_noQ (y := ⟨#[104, 111, 108, 100, 115]⟩) (k := 3) h (by simp [fnT]) rfl
  have g1 : (s.toList == [101, 98, 118]) = false := lit_noQ (y := ⟨#[101, 98, 118]⟩) (k := 2) h (by simp [fnT]) rfl
  have g2 : (s.toList == [111, 114]) = false := lit_noQ (y := ⟨#[111, 114]⟩) (k := 2) h (by simp [fnT]) rfl
  have g3 : (s.toList == [97, 110, 100]) = false := lit_noQ (y := ⟨#[97, 110, 100]⟩) (k := 2) h (by simp [fnT]) rfl
  have g4 : (s.toList == [110, 111, 116]) = false := lit_noQ (y := ⟨#[110, 111, 116]⟩) (k := 1) h (by simp [fnT]) rfl
  have g5 : (s.toList == [62, 62]) = false := lit_noQ (y := ⟨#[62, 62]⟩) (k := 2) h (by simp [fnT]) rfl
  have g6 : (s.toList == [60, 60]) = false := lit_noQ (y := ⟨#[60, 60]⟩) (k := 2) h (by simp [fnT]) rfl
  have g7 : (s.toList == [105, 115]) = false := lit_noQ (y := ⟨#[105, 115]⟩) (k := 2) h (by simp [fnT]) rfl
  have g8 : (s.toList == [62, 61]) = false := lit_noQ (y := ⟨#[62, 61]⟩) (k := 2) h (by simp [fnT]) rfl
  have g9 : (s.toList == [62]) = false := lit_noQ (y := ⟨#[62]⟩) (k := 2) h (by simp [fnT]) rfl
  have g10 : (s.toList == [60, 61]) = false := lit_noQ (y := ⟨#[60, 61]⟩) (k := 2) h (by simp [fnT]) rfl
  have g11 : (s.toList == [60]) = false := lit_noQ (y := ⟨#[60]⟩) (k := 2) h (by simp [fnT]) rfl
  have g12 : (s.toList == [33, 61]) = false := lit_noQ (y := ⟨#[33, 61]⟩) (k := 2) h (by simp [fnT]) rfl
  have g13 : (s.toList == [61]) = false := lit_noQ (y := ⟨#[61]⟩) (k := 2) h (by simp [fnT]) rfl
  have g14 : (s.toList == [115, 117, 98, 115, 116, 114, 105, 110, 103]) = false := lit_noQ (y := ⟨#[115, 117, 98, 115, 116, 114, 105, 110, 103]⟩) (k := 3) h (by simp [fnT]) rfl
  have g15 : (s.toList == [115, 116, 97, 114, 116, 115]) = false := lit_noQ (y := ⟨#[115, 116, 97, 114, 116, 115]⟩) (k := 2) h (by simp [fnT]) rfl
  have g16 : (s.toList == [99, 111, 110, 116, 97, 105, 110, 115]) = false := lit_noQ (y := ⟨#[99, 111, 110, 116, 97, 105, 110, 115]⟩) (k := 2) h (by simp [fnT]) rfl
  have g17 : (s.toList == [99, 111, 110, 99, 97, 116]) = false := lit_noQ (y := ⟨#[99, 111, 110, 99, 97, 116]⟩) (k := 2) h (by simp [fnT]) rfl
  have g18 : (s.toList == [108, 101, 110, 103, 116, 104]) = false := lit_noQ (y := ⟨#[108, 101, 110, 103, 116, 104]⟩) (k := 1) h (by simp [fnT]) rfl
  have g19 : (s.toList == [115, 112, 97, 110]) = false := lit_noQ (y := ⟨#[115, 112, 97, 110]⟩) (k := 2) h (by simp [fnT]) rfl
  have g20 : (s.toList == [109, 111, 100]) = false := lit_noQ (y := ⟨#[109, 111, 100]⟩) (k := 2) h (by simp [fnT]) rfl
  have g21 : (s.toList == [100, 105, 118]) = false := lit_noQ (y := ⟨#[100, 105, 118]⟩) (k := 2) h (by simp [fnT]) rfl
  have g22 : (s.toList == [42]) = false := lit_noQ (y := ⟨#[42]⟩) (k := 2) h (by simp [fnT]) rfl
  have g23 : (s.toList == [45]) = false := lit_noQ (y := ⟨#[45]⟩) (k := 2) h (by simp [fnT]) rfl
  have g24 : (s.toList == [43]) = false := lit_noQ (y := ⟨#[43]⟩) (k := 2) h (by simp [fnT]) rfl
  have g25 : (s.toList == [110, 101, 103]) = false := lit_noQ (y := ⟨#[110, 101, 103]⟩) (k := 1) h (by simp [fnT]) rfl
  have g26 : (s.toList == [111, 110, 101]) = false := lit_noQ (y := ⟨#[111, 110, 101]⟩) (k := 1) h (by simp [fnT]) rfl
  have g27 : (s.toList == [105, 110, 116, 101, 103, 101, 114]) = false := lit_noQ (y := ⟨#[105, 110, 116, 101, 103, 101, 114]⟩) (k := 1) h (by simp [fnT]) rfl
  have g28 : (s.toList == [115, 116, 114, 105, 110, 103]) = false := lit_noQ (y := ⟨#[115, 116, 114, 105, 110, 103]⟩) (k := 1) h (by simp [fnT]) rfl
  have g29 : (s.toList == [110, 97, 109, 101]) = false := lit_noQ (y := ⟨#[110, 97, 109, 101]⟩) (k := 1) h (by simp [fnT]) rfl
  have g30 : (s.toList == [110, 111, 100, 101]) = false := lit_noQ (y := ⟨#[110, 111, 100, 101]⟩) (k := 1) h (by simp [fnT]) rfl
  have g31 : (s.toList == [100, 97, 116, 97]) = false := lit_noQ (y := ⟨#[100, 97, 116, 97]⟩) (k := 1) h (by simp [fnT]) rfl
  clear h
  go_enter Tryz.func74, Tryz.ntmps74
  go_wp2
  go_ret
  exact ⟨rfl, rfl⟩
theorem fnArgs_is (s : ByteArray) (w : World) : Calls Tryz.prog 74 #[.string s] w fun e w' => e = .returned (.int .i64 (fnA s)) ∧ w' = w := by
  unfold fnA
  cases he : fnT.find? (fun e => e.1.toList == s.toList) with
  | none => exact fnArgs_no s w he
  | some e =>
    have h1 := List.mem_of_find?_eq_some he
    have h2 : e.1 = s := bytesQ (by have := List.find?_some he; simpa using this)
    simp only [fnT, List.mem_cons, List.not_mem_nil, or_false] at h1
    rcases h1 with rfl | rfl | rfl | rfl | rfl | rfl | rfl | rfl | rfl | rfl | rfl | rfl | rfl | rfl | rfl | rfl | rfl | rfl | rfl | rfl | rfl | rfl | rfl | rfl | rfl | rfl | rfl | rfl | rfl | rfl | rfl | rfl
    · rw [← h2]; exact fnArgs_0 w
    · rw [← h2]; exact fnArgs_1 w
    · rw [← h2]; exact fnArgs_2 w
    · rw [← h2]; exact fnArgs_3 w
    · rw [← h2]; exact fnArgs_4 w
    · rw [← h2]; exact fnArgs_5 w
    · rw [← h2]; exact fnArgs_6 w
    · rw [← h2]; exact fnArgs_7 w
    · rw [← h2]; exact fnArgs_8 w
    · rw [← h2]; exact fnArgs_9 w
    · rw [← h2]; exact fnArgs_10 w
    · rw [← h2]; exact fnArgs_11 w
    · rw [← h2]; exact fnArgs_12 w
    · rw [← h2]; exact fnArgs_13 w
    · rw [← h2]; exact fnArgs_14 w
    · rw [← h2]; exact fnArgs_15 w
    · rw [← h2]; exact fnArgs_16 w
    · rw [← h2]; exact fnArgs_17 w
    · rw [← h2]; exact fnArgs_18 w
    · rw [← h2]; exact fnArgs_19 w
    · rw [← h2]; exact fnArgs_20 w
    · rw [← h2]; exact fnArgs_21 w
    · rw [← h2]; exact fnArgs_22 w
    · rw [← h2]; exact fnArgs_23 w
    · rw [← h2]; exact fnArgs_24 w
    · rw [← h2]; exact fnArgs_25 w
    · rw [← h2]; exact fnArgs_26 w
    · rw [← h2]; exact fnArgs_27 w
    · rw [← h2]; exact fnArgs_28 w
    · rw [← h2]; exact fnArgs_29 w
    · rw [← h2]; exact fnArgs_30 w
    · rw [← h2]; exact fnArgs_31 w
end Go.Proofs.YtkcejelmohameaaGreatDoor
