/-
  CONTRACT of the document's answer to Check: pleacherref.EventsFault.
-/
import Derived.Test.YtoifdcipialciaaDoorEvent
import Derived.Test.YtoifdcipialciaaDoorEvRef
import Derived.Deep.RegionWith
import Derived.Deep.Cut
import Derived.Deep.CutRange
import Derived.OwnWalk
set_option linter.unusedVariables false
namespace Go.Proofs.YtoifdcipialciaaDoor
open Go.RowKit

theorem OpenIs.shape {w : World} {base : Nat} {v : Value} {l : List Nat} (h : OpenIs w base v l) : ∃ a cap, v = .slice a l.length cap := by
  obtain ⟨h1, ⟨rfl, h2⟩ | ⟨g, cap, cur, rfl, h2⟩⟩ := h
  · exact ⟨none, 0, by rw [h2]⟩
  · exact ⟨_, cap, rfl⟩
theorem fin_err {E : Nat → Ev} {n k : Nat} {r : Int} (hn : n ≤ 400) (hk : k < n) (ho : okTo E k) (he : errAt E k = r) (hr : r ≠ 0) : checkN E n = r := by
  rw [← he]
  exact checkN_err (by omega) hk ho (by rw [he]; exact hr)
theorem Tryd.info3 : (Tryd.prog.info? 3).map (fun i => (i.zero, i.size, i.bytes)) = some (some (.int .i64 0), 1, 8) := by kernel_rfl
/-- what is said of the event, as evF has it -/
theorem errAt_evF {E : Nat → Ev} {k d : Nat} (hd : (stAt E k).d = d) (h : okTo E k) : errAt E k = evF E k d (E k) := by
  have h2 := d_inv (E := E) k
  rw [← hd, evF_eq h (by omega)]
theorem nameOf_tag {x : Ev} (h : x.kind = 1 ∨ x.kind = 2) : nameOfF x = nameF x.name := by unfold nameOfF; rw [if_pos (show inTagB x.kind = true from decide_eq_true h)]
theorem nameOf_else {x : Ev} (h : ¬ (x.kind = 1 ∨ x.kind = 2)) : nameOfF x = if x.name.size = 0 then 0 else 4 := by unfold nameOfF; rw [if_neg (by simp [inTagB]; omega)]
theorem valueOf_se {x : Ev} (h : x.kind = 1 ∨ x.kind = 5) : valueOfF x = if x.value.size = 0 then 0 else 4 := by unfold valueOfF; rw [if_pos (show startEnd x.kind = true from decide_eq_true h)]
theorem valueOf_text {x : Ev} (h : ¬ (x.kind = 1 ∨ x.kind = 5)) : valueOfF x = textF x.value := by unfold valueOfF; rw [if_neg (by simp [startEnd]; omega)]
theorem opens_push {E : Nat → Ev} {k : Nat} (h : (E k).kind = 1) : opens E (k + 1) = opens E k ++ [k] := by simp [opens, h]
theorem opens_pop {E : Nat → Ev} {k : Nat} (h : (E k).kind = 5) : opens E (k + 1) = (opens E k).dropLast := by simp [opens, h]
theorem opens_keep {E : Nat → Ev} {k : Nat} (h1 : (E k).kind ≠ 1) (h5 : (E k).kind ≠ 5) : opens E (k + 1) = opens E k := by simp [opens, h1, h5]
theorem OpenIs.pushed {w1 : World} {base d k : Nat} {v : Value} {l : List Nat} (hl : l.length = d)
    (h : w1.ownsRow base 3 1 v (d + 1) (l.map (fun p : Nat => Value.int .i64 (p : Int)) ++ [.int .i64 k])) : OpenIs w1 base v (l ++ [k]) := by
  unfold OpenIs
  rw [List.length_append, List.length_singleton, hl, List.map_append]
  exact h
theorem ev_eta (x : Ev) {k : Int} (h : x.kind = k) : x = ⟨k, x.name, x.value⟩ := by cases x; cases h; rfl

end Go.Proofs.YtoifdcipialciaaDoor
