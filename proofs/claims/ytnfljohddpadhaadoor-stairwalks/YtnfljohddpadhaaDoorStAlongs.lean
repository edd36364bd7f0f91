/-
  CONTRACT of package axes: along.
-/
import Derived.Test.YtnfljohddpadhaaDoorStAlong
import Derived.Test.YtnfljohddpadhaaDoorStAlong2
set_option linter.unusedVariables false
namespace Go.Proofs.YtnfljohddpadhaaDoor
set_option maxRecDepth 100000
open Go.RowKit Go.WideShapes

theorem along_is (la : Option Addr) (lb lo N lcap : Nat) (E : Nat → Nd) (ca : Option Addr) (K ccap M : Nat) (axis : Int) (cb co : Nat) (C : Nat → Nat) (w : World) (t : Tr E N) (hcap : K ≤ ccap) (hK : ccap ≤ maxLen) (hw : Wk w la lb lo N lcap E) (hM : lb ≠ M) (hC : CxAt w ca cb co K C) (hcM : cb ≠ M) (hCN : ∀ j, j < K → C j < N) (hasc : ∀ j k, j < k → k < K → C j ≤ C k) (hS : Seen w M (fun _ => False)) (hlb : lb < w.heap.size) (hcb : cb < w.heap.size) (h1 : 1 ≤ axis) (h2 : axis ≤ 12) :
    Calls Tryd.prog 16 #[.agg #[.slice la N lcap, .slice ca K ccap, .map (some M)], .int .i64 axis] w fun e w' => e = .returned (.tuple #[]) ∧ Seen w' M (onJ E N K C axis) ∧ Kept (fun b => b = M) w w' := by
  obtain rfl | rfl | rfl | rfl | rfl | rfl | rfl | rfl | rfl | rfl | rfl | rfl : axis = 1 ∨ axis = 2 ∨ axis = 3 ∨ axis = 4 ∨ axis = 5 ∨ axis = 6 ∨ axis = 7 ∨ axis = 8 ∨ axis = 9 ∨ axis = 10 ∨ axis = 11 ∨ axis = 12 := by omega
  · exact along_1 la lb lo N lcap E ca K ccap M cb co C w t hcap hK hw hM hC hcM hCN hasc hS hlb hcb
  · exact along_2 la lb lo N lcap E ca K ccap M cb co C w t hcap hK hw hM hC hcM hCN hasc hS hlb hcb
  · exact along_3 la lb lo N lcap E ca K ccap M cb co C w t hcap hK hw hM hC hcM hCN hasc hS hlb hcb
  · exact along_4 la lb lo N lcap E ca K ccap M cb co C w t hcap hK hw hM hC hcM hCN hasc hS hlb hcb
  · exact along_5 la lb lo N lcap E ca K ccap M cb co C w t hcap hK hw hM hC hcM hCN hasc hS hlb hcb
  · exact along_6 la lb lo N lcap E ca K ccap M cb co C w t hcap hK hw hM hC hcM hCN hasc hS hlb hcb
  · exact along_7 la lb lo N lcap E ca K ccap M cb co C w t hcap hK hw hM hC hcM hCN hasc hS hlb hcb
  · exact along_8 la lb lo N lcap E ca K ccap M cb co C w t hcap hK hw hM hC hcM hCN hasc hS hlb hcb
  · exact along_9 la lb lo N lcap E ca K ccap M cb co C w t hcap hK hw hM hC hcM hCN hasc hS hlb hcb
  · exact along_10 la lb lo N lcap E ca K ccap M cb co C w t hcap hK hw hM hC hcM hCN hasc hS hlb hcb
  · exact along_11 la lb lo N lcap E ca K ccap M cb co C w t hcap hK hw hM hC hcM hCN hasc hS hlb hcb
  · exact along_12 la lb lo N lcap E ca K ccap M cb co C w t hcap hK hw hM hC hcM hCN hasc hS hlb hcb
end Go.Proofs.YtnfljohddpadhaaDoor
