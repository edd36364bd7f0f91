/-
  CONTRACT: how many arguments a function of the core has (the document's argsOf).
-/
import Derived.Test.YtlllgelolmkapaaDoorCfSmall
set_option linter.unusedVariables false
namespace Go.Proofs.YtlllgelolmkapaaDoor
set_option maxRecDepth 100000
open Go.RowKit Go.WideShapes

theorem lit_no {x y : ByteArray} {L : List ByteArray} {l : List UInt8} (h : hasB L x = false) (hy : y ∈ L) (hl : y.data.toList = l) : (x.toList == l) = false := by
  have hl' : y.toList = l := by rw [ByteArray.toList_eq]; exact hl
  rw [← hl']
  cases e : (x.toList == y.toList)
  · rfl
  · rw [hasB_iff.2 (by rw [same_iff.1 e]; exact hy)] at h
    cases h
theorem argsOf_1_0 (w : World) : Calls Tryd.prog 26 #[.string ⟨#[99, 111, 117, 110, 116]⟩] w fun e w' => e = .returned (.int .i64 1) ∧ w' = w := by
  go_enter Tryd.func26, Tryd.ntmps26
  go_wp2
  go_ret
  exact ⟨rfl, rfl⟩
theorem argsOf_1_1 (w : World) : Calls Tryd.prog 26 #[.string ⟨#[101, 109, 112, 116, 121]⟩] w fun e w' => e = .returned (.int .i64 1) ∧ w' = w := by
  go_enter Tryd.func26, Tryd.ntmps26
  go_wp2
  go_ret
  exact ⟨rfl, rfl⟩
theorem argsOf_1_2 (w : World) : Calls Tryd.prog 26 #[.string ⟨#[101, 120, 105, 115, 116, 115]⟩] w fun e w' => e = .returned (.int .i64 1) ∧ w' = w := by
  go_enter Tryd.func26, Tryd.ntmps26
  go_wp2
  go_ret
  exact ⟨rfl, rfl⟩
theorem argsOf_1_3 (w : World) : Calls Tryd.prog 26 #[.string ⟨#[110, 111, 116]⟩] w fun e w' => e = .returned (.int .i64 1) ∧ w' = w := by
  go_enter Tryd.func26, Tryd.ntmps26
  go_wp2
  go_ret
  exact ⟨rfl, rfl⟩
theorem argsOf_1_4 (w : World) : Calls Tryd.prog 26 #[.string ⟨#[98, 111, 111, 108, 101, 97, 110]⟩] w fun e w' => e = .returned (.int .i64 1) ∧ w' = w := by
  go_enter Tryd.func26, Tryd.ntmps26
  go_wp2
  go_ret
  exact ⟨rfl, rfl⟩
theorem argsOf_1_5 (w : World) : Calls Tryd.prog 26 #[.string ⟨#[115, 117, 109]⟩] w fun e w' => e = .returned (.int .i64 1) ∧ w' = w := by
  go_enter Tryd.func26, Tryd.ntmps26
  go_wp2
  go_ret
  exact ⟨rfl, rfl⟩
theorem argsOf_1_6 (w : World) : Calls Tryd.prog 26 #[.string ⟨#[109, 105, 110]⟩] w fun e w' => e = .returned (.int .i64 1) ∧ w' = w := by
  go_enter Tryd.func26, Tryd.ntmps26
  go_wp2
  go_ret
  exact ⟨rfl, rfl⟩
theorem argsOf_1_7 (w : World) : Calls Tryd.prog 26 #[.string ⟨#[109, 97, 120]⟩] w fun e w' => e = .returned (.int .i64 1) ∧ w' = w := by
  go_enter Tryd.func26, Tryd.ntmps26
  go_wp2
  go_ret
  exact ⟨rfl, rfl⟩
theorem argsOf_1_8 (w : World) : Calls Tryd.prog 26 #[.string ⟨#[100, 105, 115, 116, 105, 110, 99, 116]⟩] w fun e w' => e = .returned (.int .i64 1) ∧ w' = w := by
  go_enter Tryd.func26, Tryd.ntmps26
  go_wp2
  go_ret
  exact ⟨rfl, rfl⟩
theorem argsOf_1_9 (w : World) : Calls Tryd.prog 26 #[.string ⟨#[114, 101, 118, 101, 114, 115, 101]⟩] w fun e w' => e = .returned (.int .i64 1) ∧ w' = w := by
  go_enter Tryd.func26, Tryd.ntmps26
  go_wp2
  go_ret
  exact ⟨rfl, rfl⟩
theorem argsOf_1_10 (w : World) : Calls Tryd.prog 26 #[.string ⟨#[115, 116, 114, 105, 110, 103]⟩] w fun e w' => e = .returned (.int .i64 1) ∧ w' = w := by
  go_enter Tryd.func26, Tryd.ntmps26
  go_wp2
  go_ret
  exact ⟨rfl, rfl⟩
theorem argsOf_1_11 (w : World) : Calls Tryd.prog 26 #[.string ⟨#[100, 97, 116, 97]⟩] w fun e w' => e = .returned (.int .i64 1) ∧ w' = w := by
  go_enter Tryd.func26, Tryd.ntmps26
  go_wp2
  go_ret
  exact ⟨rfl, rfl⟩
theorem argsOf_1_12 (w : World) : Calls Tryd.prog 26 #[.string ⟨#[105, 110, 116, 101, 103, 101, 114]⟩] w fun e w' => e = .returned (.int .i64 1) ∧ w' = w := by
  go_enter Tryd.func26, Tryd.ntmps26
  go_wp2
  go_ret
  exact ⟨rfl, rfl⟩
theorem argsOf_1_13 (w : World) : Calls Tryd.prog 26 #[.string ⟨#[110, 97, 109, 101]⟩] w fun e w' => e = .returned (.int .i64 1) ∧ w' = w := by
  go_enter Tryd.func26, Tryd.ntmps26
  go_wp2
  go_ret
  exact ⟨rfl, rfl⟩
theorem argsOf_1_14 (w : World) : Calls Tryd.prog 26 #[.string ⟨#[108, 101, 110, 103, 116, 104]⟩] w fun e w' => e = .returned (.int .i64 1) ∧ w' = w := by
  go_enter Tryd.func26, Tryd.ntmps26
  go_wp2
  go_ret
  exact ⟨rfl, rfl⟩
theorem argsOf_1_15 (w : World) : Calls Tryd.prog 26 #[.string ⟨#[100, 100, 111]⟩] w fun e w' => e = .returned (.int .i64 1) ∧ w' = w := by
  go_enter Tryd.func26, Tryd.ntmps26
  go_wp2
  go_ret
  exact ⟨rfl, rfl⟩
theorem argsOf_1_16 (w : World) : Calls Tryd.prog 26 #[.string ⟨#[110, 101, 103]⟩] w fun e w' => e = .returned (.int .i64 1) ∧ w' = w := by
  go_enter Tryd.func26, Tryd.ntmps26
  go_wp2
  go_ret
  exact ⟨rfl, rfl⟩
theorem argsOf_2_0 (w : World) : Calls Tryd.prog 26 #[.string ⟨#[99, 111, 110, 99, 97, 116]⟩] w fun e w' => e = .returned (.int .i64 2) ∧ w' = w := by
  go_enter Tryd.func26, Tryd.ntmps26
  go_wp2
  go_ret
  exact ⟨rfl, rfl⟩
theorem argsOf_2_1 (w : World) : Calls Tryd.prog 26 #[.string ⟨#[99, 111, 110, 116, 97, 105, 110, 115]⟩] w fun e w' => e = .returned (.int .i64 2) ∧ w' = w := by
  go_enter Tryd.func26, Tryd.ntmps26
  go_wp2
  go_ret
  exact ⟨rfl, rfl⟩
theorem argsOf_2_2 (w : World) : Calls Tryd.prog 26 #[.string ⟨#[115, 116, 97, 114, 116, 115]⟩] w fun e w' => e = .returned (.int .i64 2) ∧ w' = w := by
  go_enter Tryd.func26, Tryd.ntmps26
  go_wp2
  go_ret
  exact ⟨rfl, rfl⟩
theorem argsOf_2_3 (w : World) : Calls Tryd.prog 26 #[.string ⟨#[43]⟩] w fun e w' => e = .returned (.int .i64 2) ∧ w' = w := by
  go_enter Tryd.func26, Tryd.ntmps26
  go_wp2
  go_ret
  exact ⟨rfl, rfl⟩
theorem argsOf_2_4 (w : World) : Calls Tryd.prog 26 #[.string ⟨#[45]⟩] w fun e w' => e = .returned (.int .i64 2) ∧ w' = w := by
  go_enter Tryd.func26, Tryd.ntmps26
  go_wp2
  go_ret
  exact ⟨rfl, rfl⟩
theorem argsOf_2_5 (w : World) : Calls Tryd.prog 26 #[.string ⟨#[42]⟩] w fun e w' => e = .returned (.int .i64 2) ∧ w' = w := by
  go_enter Tryd.func26, Tryd.ntmps26
  go_wp2
  go_ret
  exact ⟨rfl, rfl⟩
theorem argsOf_2_6 (w : World) : Calls Tryd.prog 26 #[.string ⟨#[100, 105, 118]⟩] w fun e w' => e = .returned (.int .i64 2) ∧ w' = w := by
  go_enter Tryd.func26, Tryd.ntmps26
  go_wp2
  go_ret
  exact ⟨rfl, rfl⟩
theorem argsOf_2_7 (w : World) : Calls Tryd.prog 26 #[.string ⟨#[109, 111, 100]⟩] w fun e w' => e = .returned (.int .i64 2) ∧ w' = w := by
  go_enter Tryd.func26, Tryd.ntmps26
  go_wp2
  go_ret
  exact ⟨rfl, rfl⟩
theorem argsOf_2_8 (w : World) : Calls Tryd.prog 26 #[.string ⟨#[61]⟩] w fun e w' => e = .returned (.int .i64 2) ∧ w' = w := by
  go_enter Tryd.func26, Tryd.ntmps26
  go_wp2
  go_ret
  exact ⟨rfl, rfl⟩
theorem argsOf_2_9 (w : World) : Calls Tryd.prog 26 #[.string ⟨#[33, 61]⟩] w fun e w' => e = .returned (.int .i64 2) ∧ w' = w := by
  go_enter Tryd.func26, Tryd.ntmps26
  go_wp2
  go_ret
  exact ⟨rfl, rfl⟩
theorem argsOf_2_10 (w : World) : Calls Tryd.prog 26 #[.string ⟨#[60]⟩] w fun e w' => e = .returned (.int .i64 2) ∧ w' = w := by
  go_enter Tryd.func26, Tryd.ntmps26
  go_wp2
  go_ret
  exact ⟨rfl, rfl⟩
theorem argsOf_2_11 (w : World) : Calls Tryd.prog 26 #[.string ⟨#[60, 61]⟩] w fun e w' => e = .returned (.int .i64 2) ∧ w' = w := by
  go_enter Tryd.func26, Tryd.ntmps26
  go_wp2
  go_ret
  exact ⟨rfl, rfl⟩
theorem argsOf_2_12 (w : World) : Calls Tryd.prog 26 #[.string ⟨#[62]⟩] w fun e w' => e = .returned (.int .i64 2) ∧ w' = w := by
  go_enter Tryd.func26, Tryd.ntmps26
  go_wp2
  go_ret
  exact ⟨rfl, rfl⟩
theorem argsOf_2_13 (w : World) : Calls Tryd.prog 26 #[.string ⟨#[62, 61]⟩] w fun e w' => e = .returned (.int .i64 2) ∧ w' = w := by
  go_enter Tryd.func26, Tryd.ntmps26
  go_wp2
  go_ret
  exact ⟨rfl, rfl⟩
theorem argsOf_2_14 (w : World) : Calls Tryd.prog 26 #[.string ⟨#[105, 115]⟩] w fun e w' => e = .returned (.int .i64 2) ∧ w' = w := by
  go_enter Tryd.func26, Tryd.ntmps26
  go_wp2
  go_ret
  exact ⟨rfl, rfl⟩
theorem argsOf_2_15 (w : World) : Calls Tryd.prog 26 #[.string ⟨#[60, 60]⟩] w fun e w' => e = .returned (.int .i64 2) ∧ w' = w := by
  go_enter Tryd.func26, Tryd.ntmps26
  go_wp2
  go_ret
  exact ⟨rfl, rfl⟩
theorem argsOf_2_16 (w : World) : Calls Tryd.prog 26 #[.string ⟨#[62, 62]⟩] w fun e w' => e = .returned (.int .i64 2) ∧ w' = w := by
  go_enter Tryd.func26, Tryd.ntmps26
  go_wp2
  go_ret
  exact ⟨rfl, rfl⟩
theorem argsOf_2_17 (w : World) : Calls Tryd.prog 26 #[.string ⟨#[97, 110, 100]⟩] w fun e w' => e = .returned (.int .i64 2) ∧ w' = w := by
  go_enter Tryd.func26, Tryd.ntmps26
  go_wp2
  go_ret
  exact ⟨rfl, rfl⟩
theorem argsOf_2_18 (w : World) : Calls Tryd.prog 26 #[.string ⟨#[111, 114]⟩] w fun e w' => e = .returned (.int .i64 2) ∧ w' = w := by
  go_enter Tryd.func26, Tryd.ntmps26
  go_wp2
  go_ret
  exact ⟨rfl, rfl⟩
theorem argsOf_2_19 (w : World) : Calls Tryd.prog 26 #[.string ⟨#[116, 111]⟩] w fun e w' => e = .returned (.int .i64 2) ∧ w' = w := by
  go_enter Tryd.func26, Tryd.ntmps26
  go_wp2
  go_ret
  exact ⟨rfl, rfl⟩
theorem argsOf_2_20 (w : World) : Calls Tryd.prog 26 #[.string ⟨#[117, 110, 105, 111, 110]⟩] w fun e w' => e = .returned (.int .i64 2) ∧ w' = w := by
  go_enter Tryd.func26, Tryd.ntmps26
  go_wp2
  go_ret
  exact ⟨rfl, rfl⟩
theorem argsOf_2_21 (w : World) : Calls Tryd.prog 26 #[.string ⟨#[105, 110, 116, 101, 114, 115, 101, 99, 116]⟩] w fun e w' => e = .returned (.int .i64 2) ∧ w' = w := by
  go_enter Tryd.func26, Tryd.ntmps26
  go_wp2
  go_ret
  exact ⟨rfl, rfl⟩
theorem argsOf_2_22 (w : World) : Calls Tryd.prog 26 #[.string ⟨#[101, 120, 99, 101, 112, 116]⟩] w fun e w' => e = .returned (.int .i64 2) ∧ w' = w := by
  go_enter Tryd.func26, Tryd.ntmps26
  go_wp2
  go_ret
  exact ⟨rfl, rfl⟩
theorem argsOf_2_23 (w : World) : Calls Tryd.prog 26 #[.string ⟨#[104, 111, 108, 100, 115]⟩] w fun e w' => e = .returned (.int .i64 2) ∧ w' = w := by
  go_enter Tryd.func26, Tryd.ntmps26
  go_wp2
  go_ret
  exact ⟨rfl, rfl⟩
theorem argsOf_3_0 (w : World) : Calls Tryd.prog 26 #[.string ⟨#[115, 117, 98, 115, 116, 114, 105, 110, 103]⟩] w fun e w' => e = .returned (.int .i64 3) ∧ w' = w := by
  go_enter Tryd.func26, Tryd.ntmps26
  go_wp2
  go_ret
  exact ⟨rfl, rfl⟩
set_option maxHeartbeats 1600000 in
theorem argsOf_no (s : ByteArray) (w : World) (h1 : hasB fn1 s = false) (h2 : hasB fn2 s = false) (h3 : hasB fn3 s = false) : Calls Tryd.prog 26 #[.string s] w fun e w' => e = .returned (.int .i64 (-1)) ∧ w' = w := by
  have g1_0 : (s.toList == [99, 111, 117, 110, 116]) = false := lit_no (y := ⟨#[99, 111, 117, 110, 116]⟩) h1 (by simp [fn1]) rfl
  have g1_1 : (s.toList == [101, 109, 112, 116, 121]) = false := lit_no (y := ⟨#[101, 109, 112, 116, 121]⟩) h1 (by simp [fn1]) rfl
  have g1_2 : (s.toList == [101, 120, 105, 115, 116, 115]) = false := lit_no (y := ⟨#[101, 120, 105, 115, 116, 115]⟩) h1 (by simp [fn1]) rfl
  have g1_3 : (s.toList == [110, 111, 116]) = false := lit_no (y := ⟨#[110, 111, 116]⟩) h1 (by simp [fn1]) rfl
  have g1_4 : (s.toList == [98, 111, 111, 108, 101, 97, 110]) = false := lit_no (y := ⟨#[98, 111, 111, 108, 101, 97, 110]⟩) h1 (by simp [fn1]) rfl
  have g1_5 : (s.toList == [115, 117, 109]) = false := lit_no (y := ⟨#[115, 117, 109]⟩) h1 (by simp [fn1]) rfl
  have g1_6 : (s.toList == [109, 105, 110]) = false := lit_no (y := ⟨#[109, 105, 110]⟩) h1 (by simp [fn1]) rfl
  have g1_7 : (s.toList == [109, 97, 120]) = false := lit_no (y := ⟨#[109, 97, 120]⟩) h1 (by simp [fn1]) rfl
  have g1_8 : (s.toList == [100, 105, 115, 116, 105, 110, 99, 116]) = false := lit_no (y := ⟨#[100, 105, 115, 116, 105, 110, 99, 116]⟩) h1 (by simp [fn1]) rfl
  have g1_9 : (s.toList == [114, 101, 118, 101, 114, 115, 101]) = false := lit_no (y := ⟨#[114, 101, 118, 101, 114, 115, 101]⟩) h1 (by simp [fn1]) rfl
  have g1_10 : (s.toList == [115, 116, 114, 105, 110, 103]) = false := lit_no (y := ⟨#[115, 116, 114, 105, 110, 103]⟩) h1 (by simp [fn1]) rfl
  have g1_11 : (s.toList == [100, 97, 116, 97]) = false := lit_no (y := ⟨#[100, 97, 116, 97]⟩) h1 (by simp [fn1]) rfl
  have g1_12 : (s.toList == [105, 110, 116, 101, 103, 101, 114]) = false := lit_no (y := ⟨#[105, 110, 116, 101, 103, 101, 114]⟩) h1 (by simp [fn1]) rfl
  have g1_13 : (s.toList == [110, 97, 109, 101]) = false := lit_no (y := ⟨#[110, 97, 109, 101]⟩) h1 (by simp [fn1]) rfl
  have g1_14 : (s.toList == [108, 101, 110, 103, 116, 104]) = false := lit_no (y := ⟨#[108, 101, 110, 103, 116, 104]⟩) h1 (by simp [fn1]) rfl
  have g1_15 : (s.toList == [100, 100, 111]) = false := lit_no (y := ⟨#[100, 100, 111]⟩) h1 (by simp [fn1]) rfl
  have g1_16 : (s.toList == [110, 101, 103]) = false := lit_no (y := ⟨#[110, 101, 103]⟩) h1 (by simp [fn1]) rfl
  have g2_0 : (s.toList == [99, 111, 110, 99, 97, 116]) = false := lit_no (y := ⟨#[99, 111, 110, 99, 97, 116]⟩) h2 (by simp [fn2]) rfl
  have g2_1 : (s.toList == [99, 111, 110, 116, 97, 105, 110, 115]) = false := lit_no (y := ⟨#[99, 111, 110, 116, 97, 105, 110, 115]⟩) h2 (by simp [fn2]) rfl
  have g2_2 : (s.toList == [115, 116, 97, 114, 116, 115]) = false := lit_no (y := ⟨#[115, 116, 97, 114, 116, 115]⟩) h2 (by simp [fn2]) rfl
  have g2_3 : (s.toList == [43]) = false := lit_no (y := ⟨#[43]⟩) h2 (by simp [fn2]) rfl
  have g2_4 : (s.toList == [45]) = false := lit_no (y := ⟨#[45]⟩) h2 (by simp [fn2]) rfl
  have g2_5 : (s.toList == [42]) = false := lit_no (y := ⟨#[42]⟩) h2 (by simp [fn2]) rfl
  have g2_6 : (s.toList == [100, 105, 118]) = false := lit_no (y := ⟨#[100, 105, 118]⟩) h2 (by simp [fn2]) rfl
  have g2_7 : (s.toList == [109, 111, 100]) = false := lit_no (y := ⟨#[109, 111, 100]⟩) h2 (by simp [fn2]) rfl
  have g2_8 : (s.toList == [61]) = false := lit_no (y := ⟨#[61]⟩) h2 (by simp [fn2]) rfl
  have g2_9 : (s.toList == [33, 61]) = false := lit_no (y := ⟨#[33, 61]⟩) h2 (by simp [fn2]) rfl
  have g2_10 : (s.toList == [60]) = false := lit_no (y := ⟨#[60]⟩) h2 (by simp [fn2]) rfl
  have g2_11 : (s.toList == [60, 61]) = false := lit_no (y := ⟨#[60, 61]⟩) h2 (by simp [fn2]) rfl
  have g2_12 : (s.toList == [62]) = false := lit_no (y := ⟨#[62]⟩) h2 (by simp [fn2]) rfl
  have g2_13 : (s.toList == [62, 61]) = false := lit_no (y := ⟨#[62, 61]⟩) h2 (by simp [fn2]) rfl
  have g2_14 : (s.toList == [105, 115]) = false := lit_no (y := ⟨#[105, 115]⟩) h2 (by simp [fn2]) rfl
  have g2_15 : (s.toList == [60, 60]) = false := lit_no (y := ⟨#[60, 60]⟩) h2 (by simp [fn2]) rfl
  have g2_16 : (s.toList == [62, 62]) = false := lit_no (y := ⟨#[62, 62]⟩) h2 (by simp [fn2]) rfl
  have g2_17 : (s.toList == [97, 110, 100]) = false := lit_no (y := ⟨#[97, 110, 100]⟩) h2 (by simp [fn2]) rfl
  have g2_18 : (s.toList == [111, 114]) = false := lit_no (y := ⟨#[111, 114]⟩) h2 (by simp [fn2]) rfl
  have g2_19 : (s.toList == [116, 111]) = false := lit_no (y := ⟨#[116, 111]⟩) h2 (by simp [fn2]) rfl
  have g2_20 : (s.toList == [117, 110, 105, 111, 110]) = false := lit_no (y := ⟨#[117, 110, 105, 111, 110]⟩) h2 (by simp [fn2]) rfl
  have g2_21 : (s.toList == [105, 110, 116, 101, 114, 115, 101, 99, 116]) = false := lit_no (y := ⟨#[105, 110, 116, 101, 114, 115, 101, 99, 116]⟩) h2 (by simp [fn2]) rfl
  have g2_22 : (s.toList == [101, 120, 99, 101, 112, 116]) = false := lit_no (y := ⟨#[101, 120, 99, 101, 112, 116]⟩) h2 (by simp [fn2]) rfl
  have g2_23 : (s.toList == [104, 111, 108, 100, 115]) = false := lit_no (y := ⟨#[104, 111, 108, 100, 115]⟩) h2 (by simp [fn2]) rfl
  have g3_0 : (s.toList == [115, 117, 98, 115, 116, 114, 105, 110, 103]) = false := lit_no (y := ⟨#[115, 117, 98, 115, 116, 114, 105, 110, 103]⟩) h3 (by simp [fn3]) rfl
  clear h1 h2 h3
  go_enter Tryd.func26, Tryd.ntmps26
  go_wp2
  go_ret
  exact ⟨rfl, rfl⟩
theorem argsOf_is (s : ByteArray) (w : World) : Calls Tryd.prog 26 #[.string s] w fun e w' => e = .returned (.int .i64 (argsN s)) ∧ w' = w := by
  by_cases h1 : s ∈ fn1
  · rw [argsN_one h1]
    simp only [fn1, List.mem_cons, List.not_mem_nil, or_false] at h1
    rcases h1 with rfl | rfl | rfl | rfl | rfl | rfl | rfl | rfl | rfl | rfl | rfl | rfl | rfl | rfl | rfl | rfl | rfl
    · exact argsOf_1_0 w
    · exact argsOf_1_1 w
    · exact argsOf_1_2 w
    · exact argsOf_1_3 w
    · exact argsOf_1_4 w
    · exact argsOf_1_5 w
    · exact argsOf_1_6 w
    · exact argsOf_1_7 w
    · exact argsOf_1_8 w
    · exact argsOf_1_9 w
    · exact argsOf_1_10 w
    · exact argsOf_1_11 w
    · exact argsOf_1_12 w
    · exact argsOf_1_13 w
    · exact argsOf_1_14 w
    · exact argsOf_1_15 w
    · exact argsOf_1_16 w
  by_cases h2 : s ∈ fn2
  · rw [argsN_two h2]
    simp only [fn2, List.mem_cons, List.not_mem_nil, or_false] at h2
    rcases h2 with rfl | rfl | rfl | rfl | rfl | rfl | rfl | rfl | rfl | rfl | rfl | rfl | rfl | rfl | rfl | rfl | rfl | rfl | rfl | rfl | rfl | rfl | rfl | rfl
    · exact argsOf_2_0 w
    · exact argsOf_2_1 w
    · exact argsOf_2_2 w
    · exact argsOf_2_3 w
    · exact argsOf_2_4 w
    · exact argsOf_2_5 w
    · exact argsOf_2_6 w
    · exact argsOf_2_7 w
    · exact argsOf_2_8 w
    · exact argsOf_2_9 w
    · exact argsOf_2_10 w
    · exact argsOf_2_11 w
    · exact argsOf_2_12 w
    · exact argsOf_2_13 w
    · exact argsOf_2_14 w
    · exact argsOf_2_15 w
    · exact argsOf_2_16 w
    · exact argsOf_2_17 w
    · exact argsOf_2_18 w
    · exact argsOf_2_19 w
    · exact argsOf_2_20 w
    · exact argsOf_2_21 w
    · exact argsOf_2_22 w
    · exact argsOf_2_23 w
  by_cases h3 : s ∈ fn3
  · rw [argsN_three h3]
    simp only [fn3, List.mem_cons, List.not_mem_nil, or_false] at h3
    subst h3
    exact argsOf_3_0 w
  have g1 : hasB fn1 s = false := by simpa using not_has h1
  have g2 : hasB fn2 s = false := by simpa using not_has h2
  have g3 : hasB fn3 s = false := by simpa using not_has h3
  have e : argsN s = -1 := by unfold argsN; rw [g1, g2, g3]; rfl
  rw [e]
  exact argsOf_no s w g1 g2 g3
end Go.Proofs.YtlllgelolmkapaaDoor
