/-
  CONTRACTS: what may be a value (xml.CheckText, and the document's answer to it): each returns what the plain function says; old memory is as it was.
-/
import Derived.Test.YtnfljohddpadhaaDoorRows
import Derived.Test.YtnfljohddpadhaaDoorPlain
import Derived.Test.YtnfljohddpadhaaDoorShelf
import Derived.WalkKit
import Derived.WalkSpells
import Derived.WalkLawsBesides
import Derived.Outline
import Derived.Lib.LaidU8T
namespace Go.Proofs.YtnfljohddpadhaaDoor
open Go.RowKit Go.Shelf

/-- the two tables of unicode/utf8 hold what their initialisers lay -/
def Tabs (w : World) : Prop := Lib.Utf8Tabs (Tryd.laysValid_ren.g 3) (Tryd.laysValid_ren.g 4) w
theorem valid_any (s : ByteArray) (w : World) (hs : s.size ≤ 9223372036854775807) (hT : Tabs w) :
    Calls Tryd.prog 61 #[.string s] w fun e w' => e = .returned (.bool (Lib.validD s.data.toList)) ∧ Below w.heap.size w w' :=
  Any.utf8_ValidString Tryd.laysValid s w hs hT

set_option maxHeartbeats 800000 in
theorem checkText_any (s : ByteArray) (w : World) (hs : s.size ≤ maxLen) (hT : Tabs w) :
    Calls Tryd.prog 63 #[.string s] w fun e w' => e = .returned (.int .i64 (textF s)) ∧ Below w.heap.size w w' := by
  unfold maxLen at hs
  have cV := valid_any s w hs hT
  have CV : Hid (Calls Tryd.prog 61 #[.string s] w fun e w' => e = .returned (.bool (Lib.validD s.data.toList)) ∧ Below w.heap.size w w') := cV
  clear cV hT
  by_cases h1 : 20000 < s.size
  · have H' : Hid (textF s = 1) := textF_size h1
    go_enter Tryd.func63, Tryd.ntmps63
    go_wp2
    all_goals
      go_ret
      exact ⟨ret_int H'.out.symm, Below.refl _ _⟩
  · have hhi : s.size ≤ 20000 := by omega
    have H1 : Hid (¬ 20000 < s.size) := h1
    clear h1 hs
    cases hv : Lib.validD s.data.toList
    · have H' : Hid (textF s = 4) := textF_no H1.out (by rw [hv, Bool.false_and])
      go_enter Tryd.func63, Tryd.ntmps63
      go_wp2_with (go_at_call 61; refine CV.out.mono ?_; rintro e w1 ⟨rfl, hb⟩)
      go_ret
      exact ⟨ret_int H'.out.symm, hb⟩
    · have HV : Hid (Lib.validD s.data.toList = true) := hv
      go_enter Tryd.func63, Tryd.ntmps63
      go_wp2_with (go_at_call 61; refine CV.out.mono ?_; rintro e w1 ⟨rfl, hb⟩)
      have HBL : Hid (Below w.heap.size w w1) := hb
      clear hb CV
      go_loop [13] (fun i => ∃ k : Nat, k ≤ s.size ∧ i = .int .i64 k ∧ ctlTo s k = true) (fun i => s.size - (intOf i).toNat)
      case atStart => exact ⟨0, Nat.zero_le _, rfl, rfl⟩
      case round =>
        obtain ⟨k, hk, rfl, hok⟩ := hrel
        have HO : Hid (ctlTo s k = true) := hok
        clear hok
        by_cases hlt : k < s.size
        · have HE : Hid ((s[k].toNat : Int) = byteAt s k) := byteAt_eq s k hlt
          cases hc : ctl (s[k].toNat : Int)
          · have HC : Hid (ctl (byteAt s k) = false) := HE.out ▸ hc
            obtain ⟨c1, c2, c3, c4, c5⟩ := ctl_no hc
            clear hc
            go_wp2
            go_ret
            exact ⟨ret_int (textF_ctl H1.out hlt HC.out).symm, HBL.out⟩
          · have HC : Hid (ctl (byteAt s k) = true) := HE.out ▸ hc
            have hc' := ctl_yes hc
            clear hc
            rcases hc' with c1 | ⟨c1, c2, c3⟩ | ⟨c1, c2, c3, c4, c5⟩
            all_goals
              go_wp2
              go_round
              case rel => exact ⟨k + 1, by omega, by go_num, by rw [ctlTo_succ, HO.out, HC.out]; rfl⟩
              case measure => simp [intOf]; omega
        · go_wp2
          go_ret
          have e : k = s.size := by omega
          exact ⟨ret_int (textF_ok H1.out HV.out (e ▸ HO.out)).symm, HBL.out⟩

set_option maxHeartbeats 800000 in
theorem valueFault_any (s : ByteArray) (w : World) (hs : s.size ≤ maxLen) (hT : Tabs w) :
    Calls Tryd.prog 44 #[.string s] w fun e w' => e = .returned (.int .i64 (textF s)) ∧ Below w.heap.size w w' := by
  unfold maxLen at hs
  have cV := valid_any s w hs hT
  have CV : Hid (Calls Tryd.prog 61 #[.string s] w fun e w' => e = .returned (.bool (Lib.validD s.data.toList)) ∧ Below w.heap.size w w') := cV
  clear cV hT
  by_cases h1 : 20000 < s.size
  · have H' : Hid (textF s = 1) := textF_size h1
    go_enter Tryd.func44, Tryd.ntmps44
    go_wp2
    all_goals
      go_ret
      exact ⟨ret_int H'.out.symm, Below.refl _ _⟩
  · have hhi : s.size ≤ 20000 := by omega
    have H1 : Hid (¬ 20000 < s.size) := h1
    clear h1 hs
    generalize hV : Lib.validD s.data.toList = V at CV
    have HV : Hid (Lib.validD s.data.toList = V) := hV
    clear hV
    go_enter Tryd.func44, Tryd.ntmps44
    go_wp2_with (go_at_call 61; refine CV.out.mono ?_; rintro e w1 ⟨rfl, hb⟩)
    have HBL : Hid (Below w.heap.size w w1) := hb
    clear hb CV
    go_loop [3, 4] (fun t i => ∃ k : Nat, k ≤ s.size ∧ i = .int .i64 k ∧ t = .bool (V && ctlTo s k)) (fun _ i => s.size - (intOf i).toNat)
    case atStart => exact ⟨0, Nat.zero_le _, rfl, by simp [ctlTo]⟩
    case round =>
      obtain ⟨k, hk, rfl, rfl⟩ := hrel
      by_cases hlt : k < s.size
      · have HE : Hid ((s[k].toNat : Int) = byteAt s k) := byteAt_eq s k hlt
        have HS : Hid (ctlTo s (k + 1) = (ctlTo s k && ctl (byteAt s k))) := ctlTo_succ s k
        generalize hB : (V && ctlTo s k) = B
        have HB : Hid ((V && ctlTo s k) = B) := hB
        clear hB
        cases B
        · go_wp2
          go_round
          case rel => exact ⟨k + 1, by omega, by go_num, by rw [HS.out, ← Bool.and_assoc, HB.out]; rfl⟩
          case measure => simp [intOf]; omega
        · cases hc : ctl (s[k].toNat : Int)
          · have HC : Hid (ctl (byteAt s k) = false) := HE.out ▸ hc
            obtain ⟨c1, c2, c3, c4, c5⟩ := ctl_no hc
            clear hc
            go_wp2
            go_round
            case rel => exact ⟨k + 1, by omega, by go_num, by rw [HS.out, ← Bool.and_assoc, HB.out, HC.out, decide_eq_false (by omega)]; rfl⟩
            case measure => simp [intOf]; omega
          · have HC : Hid (ctl (byteAt s k) = true) := HE.out ▸ hc
            have hc' := ctl_yes hc
            clear hc
            rcases hc' with c1 | ⟨c1, c2, c3⟩ | ⟨c1, c2, c3, c4, c5⟩
            all_goals
              go_wp2
              go_round
              case rel => exact ⟨k + 1, by omega, by go_num, by rw [HS.out, ← Bool.and_assoc, HB.out, HC.out]; rfl⟩
              case measure => simp [intOf]; omega
      · have e : k = s.size := by omega
        generalize hB : (V && ctlTo s k) = B
        have HB : Hid ((Lib.validD s.data.toList && ctlTo s s.size) = B) := by rw [HV.out, ← e]; exact hB
        clear hB
        cases B
        · have HF : Hid (textF s = 4) := textF_no H1.out HB.out
          go_wp2
          go_ret
          exact ⟨ret_int HF.out.symm, HBL.out⟩
        · have HF : Hid (textF s = 0) := textF_ok H1.out (Bool.and_eq_true_iff.1 HB.out).1 (Bool.and_eq_true_iff.1 HB.out).2
          go_wp2
          go_ret
          exact ⟨ret_int HF.out.symm, HBL.out⟩
end Go.Proofs.YtnfljohddpadhaaDoor
