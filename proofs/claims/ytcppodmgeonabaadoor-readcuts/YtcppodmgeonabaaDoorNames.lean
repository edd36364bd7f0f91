/-
  CONTRACTS: what may stand in a name (xml.isNameByte, xml.CheckName, and the document's answer to both): each returns what the plain function says; the world is as it was.
-/
import Derived.Test.YtcppodmgeonabaaDoorRows
import Derived.Test.YtcppodmgeonabaaDoorPlain
import Derived.WalkKit
import Derived.WalkSpells
import Derived.WalkLawsBesides
import Derived.Outline
namespace Go.Proofs.YtcppodmgeonabaaDoor
open Go.RowKit

set_option maxHeartbeats 400000 in
theorem nameByte_any (c : Int) (f : Bool) (w : World) :
    Calls Tryd.prog 32 #[.int .u8 c, .bool f] w fun e w' => e = .returned (.bool (nb c f)) ∧ w' = w := by
  cases f
  all_goals
    go_enter Tryd.func32, Tryd.ntmps32
    go_wp2
    all_goals
      go_ret
      refine ⟨ret_bool ?_, rfl⟩
      rw [Bool.eq_iff_iff]
      simp_all [nb]
      try omega

set_option maxHeartbeats 400000 in
theorem in_any (n l h : Int) (w : World) :
    Calls Tryd.prog 12 #[.int .i64 n, .int .i64 l, .int .i64 h] w fun e w' => e = .returned (.bool (inB n l h)) ∧ w' = w := by
  go_enter Tryd.func12, Tryd.ntmps12
  go_wp2
  all_goals
    go_ret
    refine ⟨ret_bool ?_, rfl⟩
    rw [Bool.eq_iff_iff]
    simp_all [inB]
    try omega

end Go.Proofs.YtcppodmgeonabaaDoor
