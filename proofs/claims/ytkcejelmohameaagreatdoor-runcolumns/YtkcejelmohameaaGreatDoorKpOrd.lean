/-
  THE ORDER OF ITEMS: what holds of any three of them.
-/
import Derived.Test.YtkcejelmohameaaGreatDoorRows
import Derived.Test.YtkcejelmohameaaGreatDoorUnroll
import Derived.Test.YtkcejelmohameaaGreatDoorShelf
import Derived.WalkKit
import Derived.WalkSpells
import Derived.WalkLawsBesides
import Derived.Outline
import Derived.Lib.LaidU8T
import Derived.ProofKit
namespace Go.Proofs.YtkcejelmohameaaGreatDoor
open Go.RowKit Go.Shelf

/-- the two tables of unicode/utf8 hold what their initialisers lay -/
def Tabs (w : World) : Prop := Lib.Utf8Tabs (Tryz.laysValid_ren.g 3) (Tryz.laysValid_ren.g 4) w
theorem valid_any (s : ByteArray) (w : World) (hs : s.size ≤ 9223372036854775807) (hT : Tabs w) :
    Calls Tryz.prog 194 #[.string s] w fun e w' => e = .returned (.bool (Lib.validD s.data.toList)) ∧ Below w.heap.size w w' :=
  Any.utf8_ValidString Tryz.laysValid s w hs hT

set_option maxHeartbeats 800000 in
theorem checkText_any (s : ByteArray) (w : World) (hs : s.size ≤ maxLen) (hT : Tabs w) :
    Calls Tryz.prog 201 #[.string s] w fun e w' => e = .returned (.int .i64 (textF s)) ∧ Below w.heap.size w w' := by
  unfold maxLen at hs
  have cV := valid_any s w hs hT
  have CV : Hid (Calls Tryz.prog 194 #[.string s] w fun e w' => e = .returned (.bool (Lib.validD s.data.toList)) ∧ Below w.heap.size w w') := cV
  clear cV hT
  by_cases h1 : 20000 < s.size
  · have H' : Hid (textF s = 1) := textF_size h1
    go_enter Tryz.func201, Tryz.ntmps201
    go_wp2
    all_goals
      go_ret
      exact ⟨ret_int H'.out.symm, Below.refl _ _⟩
  · have hhi : s.size ≤ 20000 := by omega
    have H1 : Hid (¬ 20000 < s.size) := h1
    clear h1 hs
    cases hv : Lib.validD s.data.toList
    · have H' : Hid (textF s = 4) := textF_no H1.out (by rw [hv, Bool.false_and])
      go_enter Tryz.func201, Tryz.ntmps201
      go_wp2_with (go_at_call 194; refine CV.out.mono ?_; rintro e w1 ⟨rfl, hb⟩)
      go_ret
      exact ⟨ret_int H'.out.symm, hb⟩
    · have HV : Hid (Lib.validD s.data.toList = true) := hv
      go_enter Tryz.func201, Tryz.ntmps201
      go_wp2_with (go_at_call 194; refine CV.out.mono ?_; rintro e w1 ⟨rfl, hb⟩)
      have HBL : Hid (Below w.heap.size w w1) := hb
      clear hb CV
      go_loop [13] (fun i => ∃ k : Nat, k ≤ s.size ∧ i = .int .i64 k ∧ ctlTo s k = true) (fun i => s.size - (intOf i).toNat)
      case atStart => exact ⟨0, Nat.zero_le _, rfl, rfl⟩
      case round =>
        obtain ⟨k, hk, rfl, hok⟩ := hrel
        have HO : Hid (ctlTo s k = true) := hok
        clear hok
        by_cases hlt : k < s.size
        · have HE : Hid ((s[k].toNat : Int) = byteAt s k) := byteAt_eq s k hlt
          cases hc : ctl (s[k].toNat : Int)
          · have HC : Hid (ctl (byteAt s k) = false) := HE.out ▸ hc
            obtain ⟨c1, c2, c3, c4, c5⟩ := ctl_no hc
            clear hc
            go_wp2
            go_ret
            exact ⟨ret_int (textF_ctl H1.out hlt HC.out).symm, HBL.out⟩
          · have HC : Hid (ctl (byteAt s k) = true) := HE.out ▸ hc
            have hc' := ctl_yes hc
            clear hc
            rcases hc' with c1 | ⟨c1, c2, c3⟩ | ⟨c1, c2, c3, c4, c5⟩
            all_goals
              go_wp2
              go_round
              case rel => exact ⟨k + 1, by omega, by go_num, by rw [ctlTo_succ, HO.out, HC.out]; rfl⟩
              case measure => simp [intOf]; omega
        · go_wp2
          go_ret
          have e : k = s.size := by omega
          exact ⟨ret_int (textF_ok H1.out HV.out (e ▸ HO.out)).symm, HBL.out⟩

set_option maxHeartbeats 800000 in
theorem valueFault_any (s : ByteArray) (w : World) (hs : s.size ≤ maxLen) (hT : Tabs w) :
    Calls Tryz.prog 150 #[.string s] w fun e w' => e = .returned (.int .i64 (textF s)) ∧ Below w.heap.size w w' := by
  unfold maxLen at hs
  have cV := valid_any s w hs hT
  have CV : Hid (Calls Tryz.prog 194 #[.string s] w fun e w' => e = .returned (.bool (Lib.validD s.data.toList)) ∧ Below w.heap.size w w') := cV
  clear cV hT
  by_cases h1 : 20000 < s.size
  · have H' : Hid (textF s = 1) := textF_size h1
    go_enter Tryz.func150, Tryz.ntmps150
    go_wp2
    all_goals
      go_ret
      exact ⟨ret_int H'.out.symm, Below.refl _ _⟩
  · have hhi : s.size ≤ 20000 := by omega
    have H1 : Hid (¬ 20000 < s.size) := h1
    clear h1 hs
    generalize hV : Lib.validD s.data.toList = V at CV
    have HV : Hid (Lib.validD s.data.toList = V) := hV
    clear hV
    go_enter Tryz.func150, Tryz.ntmps150
    go_wp2_with (go_at_call 194; refine CV.out.mono ?_; rintro e w1 ⟨rfl, hb⟩)
    have HBL : Hid (Below w.heap.size w w1) := hb
    clear hb CV
    go_loop [3, 4] (fun t i => ∃ k : Nat, k ≤ s.size ∧ i = .int .i64 k ∧ t = .bool (V && ctlTo s k)) (fun _ i => s.size - (intOf i).toNat)
    case atStart => exact ⟨0, Nat.zero_le _, rfl, by simp [ctlTo]⟩
    case round =>
      obtain ⟨k, hk, rfl, rfl⟩ := hrel
      by_cases hlt : k < s.size
      · have HE : Hid ((s[k].toNat : Int) = byteAt s k) := byteAt_eq s k hlt
        have HS : Hid (ctlTo s (k + 1) = (ctlTo s k && ctl (byteAt s k))) := ctlTo_succ s k
        generalize hB : (V && ctlTo s k) = B
        have HB : Hid ((V && ctlTo s k) = B) := hB
        clear hB
        cases B
        · go_wp2
          go_round
          case rel => exact ⟨k + 1, by omega, by go_num, by rw [HS.out, ← Bool.and_assoc, HB.out]; rfl⟩
          case measure => simp [intOf]; omega
        · cases hc : ctl (s[k].toNat : Int)
          · have HC : Hid (ctl (byteAt s k) = false) := HE.out ▸ hc
            obtain ⟨c1, c2, c3, c4, c5⟩ := ctl_no hc
            clear hc
            go_wp2
            go_round
            case rel => exact ⟨k + 1, by omega, by go_num, by rw [HS.out, ← Bool.and_assoc, HB.out, HC.out, decide_eq_false (by omega)]; rfl⟩
            case measure => simp [intOf]; omega
          · have HC : Hid (ctl (byteAt s k) = true) := HE.out ▸ hc
            have hc' := ctl_yes hc
            clear hc
            rcases hc' with c1 | ⟨c1, c2, c3⟩ | ⟨c1, c2, c3, c4, c5⟩
            all_goals
              go_wp2
              go_round
              case rel => exact ⟨k + 1, by omega, by go_num, by rw [HS.out, ← Bool.and_assoc, HB.out, HC.out]; rfl⟩
              case measure => simp [intOf]; omega
      · have e : k = s.size := by omega
        generalize hB : (V && ctlTo s k) = B
        have HB : Hid ((Lib.validD s.data.toList && ctlTo s s.size) = B) := by rw [HV.out, ← e]; exact hB
        clear hB
        cases B
        · have HF : Hid (textF s = 4) := textF_no H1.out HB.out
          go_wp2
          go_ret
          exact ⟨ret_int HF.out.symm, HBL.out⟩
        · have HF : Hid (textF s = 0) := textF_ok H1.out (Bool.and_eq_true_iff.1 HB.out).1 (Bool.and_eq_true_iff.1 HB.out).2
          go_wp2
          go_ret
          exact ⟨ret_int HF.out.symm, HBL.out⟩
end Go.Proofs.YtkcejelmohameaaGreatDoor
namespace Go.Proofs.YtkcejelmohameaaGreatDoor
open Go.RowKit

set_option maxHeartbeats 400000 in
theorem isName_any (c : Int) (f : Bool) (w : World) :
    Calls Tryz.prog 131 #[.int .u8 c, .bool f] w fun e w' => e = .returned (.bool (nb c f)) ∧ w' = w := by
  cases f
  all_goals
    go_enter Tryz.func131, Tryz.ntmps131
    go_wp2
    all_goals
      go_ret
      refine ⟨ret_bool ?_, rfl⟩
      rw [Bool.eq_iff_iff]
      simp_all [nb]
      try omega

set_option maxHeartbeats 400000 in
theorem nameByte_any (c : Int) (f : Bool) (w : World) :
    Calls Tryz.prog 151 #[.int .u8 c, .bool f] w fun e w' => e = .returned (.bool (nb c f)) ∧ w' = w := by
  cases f
  all_goals
    go_enter Tryz.func151, Tryz.ntmps151
    go_wp2
    all_goals
      go_ret
      refine ⟨ret_bool ?_, rfl⟩
      rw [Bool.eq_iff_iff]
      simp_all [nb]
      try omega

set_option maxHeartbeats 400000 in
theorem in_any (n l h : Int) (w : World) :
    Calls Tryz.prog 12 #[.int .i64 n, .int .i64 l, .int .i64 h] w fun e w' => e = .returned (.bool (inB n l h)) ∧ w' = w := by
  go_enter Tryz.func12, Tryz.ntmps12
  go_wp2
  all_goals
    go_ret
    refine ⟨ret_bool ?_, rfl⟩
    rw [Bool.eq_iff_iff]
    simp_all [inB]
    try omega

set_option maxHeartbeats 800000 in
theorem checkName_any (s : ByteArray) (w : World) (hs : s.size ≤ maxLen) :
    Calls Tryz.prog 97 #[.string s] w fun e w' => e = .returned (.int .i64 (nameF s)) ∧ w' = w := by
  unfold maxLen at hs
  by_cases h1 : s.size < 1 ∨ 20 < s.size
  · have H' : Hid (nameF s = 1) := nameF_size h1
    go_enter Tryz.func97, Tryz.ntmps97
    go_wp2
    all_goals
      go_ret
      exact ⟨ret_int H'.out.symm, rfl⟩
  · have hlo : 1 ≤ s.size := by omega
    have hhi : s.size ≤ 20 := by omega
    have H1 : Hid (¬ (s.size < 1 ∨ 20 < s.size)) := h1
    clear h1 hs
    go_enter Tryz.func97, Tryz.ntmps97
    go_wp2
    go_loop [14] (fun i => ∃ k : Nat, k ≤ s.size ∧ i = .int .i64 k ∧ nameTo s k = true) (fun i => s.size - (intOf i).toNat)
    case atStart => exact ⟨0, Nat.zero_le _, rfl, rfl⟩
    case round =>
      obtain ⟨k, hk, rfl, hok⟩ := hrel
      have HO : Hid (nameTo s k = true) := hok
      clear hok
      by_cases hlt : k < s.size
      · have hbe := byteAt_eq s k hlt
        cases hn : nb (s[k].toNat : Int) ((k : Int) == 0)
        · have HB : Hid (nb (byteAt s k) ((k : Int) == 0) = false) := hbe ▸ hn
          clear hbe
          go_wp2_with (go_at_call 131; refine (isName_any _ _ _).mono ?_; rintro e w' ⟨rfl, rfl⟩)
          go_ret
          exact ⟨ret_int (nameF_no H1.out hlt HB.out).symm, rfl⟩
        · have HB : Hid (nb (byteAt s k) ((k : Int) == 0) = true) := hbe ▸ hn
          clear hbe
          go_wp2_with (go_at_call 131; refine (isName_any _ _ _).mono ?_; rintro e w' ⟨rfl, rfl⟩)
          go_round
          case rel => exact ⟨k + 1, by omega, by go_num, by rw [nameTo_succ, HO.out, HB.out]; rfl⟩
          case measure => simp [intOf]; omega
      · go_wp2
        go_ret
        have e : k = s.size := by omega
        exact ⟨ret_int (nameF_ok H1.out (e ▸ HO.out)).symm, rfl⟩

set_option maxHeartbeats 800000 in
theorem nameFault_any (s : ByteArray) (w : World) (hs : s.size ≤ maxLen) :
    Calls Tryz.prog 109 #[.string s] w fun e w' => e = .returned (.int .i64 (nameF s)) ∧ w' = w := by
  unfold maxLen at hs
  by_cases h1 : s.size < 1 ∨ 20 < s.size
  · have H' : Hid (nameF s = 1) := nameF_size h1
    have hi : inB (s.size : Int) 1 20 = false := by simp [inB]; omega
    clear h1
    go_enter Tryz.func109, Tryz.ntmps109
    go_wp2_with (go_at_call 12; refine (in_any _ _ _ _).mono ?_; rintro e w' ⟨rfl, rfl⟩)
    all_goals
      go_ret
      exact ⟨ret_int H'.out.symm, rfl⟩
  · have hlo : 1 ≤ s.size := by omega
    have hhi : s.size ≤ 20 := by omega
    have hi : inB (s.size : Int) 1 20 = true := by simp [inB]; omega
    have H1 : Hid (¬ (s.size < 1 ∨ 20 < s.size)) := h1
    clear h1 hs
    go_enter Tryz.func109, Tryz.ntmps109
    go_wp2_with (go_at_call 12; refine (in_any _ _ _ _).mono ?_; rintro e w' ⟨rfl, rfl⟩)
    go_loop [3] (fun i => ∃ k : Nat, k ≤ s.size ∧ i = .int .i64 k ∧ nameTo s k = true) (fun i => s.size - (intOf i).toNat)
    case atStart => exact ⟨0, Nat.zero_le _, rfl, rfl⟩
    case round =>
      obtain ⟨k, hk, rfl, hok⟩ := hrel
      have HO : Hid (nameTo s k = true) := hok
      clear hok
      by_cases hlt : k < s.size
      · have hbe := byteAt_eq s k hlt
        cases hn : nb (s[k].toNat : Int) ((k : Int) == 0)
        · have HB : Hid (nb (byteAt s k) ((k : Int) == 0) = false) := hbe ▸ hn
          clear hbe
          go_wp2_with (go_at_call 151; refine (nameByte_any _ _ _).mono ?_; rintro e w' ⟨rfl, rfl⟩)
          go_ret
          exact ⟨ret_int (nameF_no H1.out hlt HB.out).symm, rfl⟩
        · have HB : Hid (nb (byteAt s k) ((k : Int) == 0) = true) := hbe ▸ hn
          clear hbe
          go_wp2_with (go_at_call 151; refine (nameByte_any _ _ _).mono ?_; rintro e w' ⟨rfl, rfl⟩)
          go_round
          case rel => exact ⟨k + 1, by omega, by go_num, by rw [nameTo_succ, HO.out, HB.out]; rfl⟩
          case measure => simp [intOf]; omega
      · go_wp2
        go_ret
        have e : k = s.size := by omega
        exact ⟨ret_int (nameF_ok H1.out (e ▸ HO.out)).symm, rfl⟩
end Go.Proofs.YtkcejelmohameaaGreatDoor
set_option linter.unusedVariables false
namespace Go.Proofs.YtkcejelmohameaaGreatDoor
set_option maxRecDepth 100000
open Go.RowKit Go.WideShapes

theorem mk_rels0 (w : World) : (Instr.makeSlice 32 (.int .i64 0) (.int .i64 0)).run Tryz.prog w = .ok (.slice (some ⟨w.heap.size, 0, none⟩) 0 0) (w.alloc (.cells #[] 40)) := by kernel_rfl
theorem mk_rels1 (w : World) : (Instr.makeSlice 32 (.int .i64 1) (.int .i64 1)).run Tryz.prog w = .ok (.slice (some ⟨w.heap.size, 0, none⟩) 1 1) (w.alloc (.cells #[.slice none 0 0, .slice none 0 0] 40)) := by kernel_rfl
theorem mk_rels2 (w : World) : (Instr.makeSlice 32 (.int .i64 2) (.int .i64 2)).run Tryz.prog w = .ok (.slice (some ⟨w.heap.size, 0, none⟩) 2 2) (w.alloc (.cells #[.slice none 0 0, .slice none 0 0, .slice none 0 0, .slice none 0 0] 40)) := by kernel_rfl
end Go.Proofs.YtkcejelmohameaaGreatDoor
set_option linter.unusedVariables false
namespace Go.Proofs.YtkcejelmohameaaGreatDoor
open Go.RowKit

theorem ret_intC {k : IntKind} {a b : Int} (h : a = b) : Ending.returned (.int k a) = .returned (.int k b) := by rw [h]
/-- how two items stand -/
def cmpI (k n : Int) (s : ByteArray) (k' n' : Int) (s' : ByteArray) : Int :=
  if k < k' then -1 else if k' < k then 1 else if n < n' then -1 else if n' < n then 1 else Lib.compareBytes s.data.toList s'.data.toList
theorem compare_less : ∀ a b : List UInt8, Lib.compareBytes a b = if Op.bytesLess a b = true then -1 else if Op.bytesLess b a = true then 1 else 0
  | [], [] => rfl
  | [], _ :: _ => rfl
  | _ :: _, [] => rfl
  | a :: xs, b :: ys => by
    have ih := compare_less xs ys
    unfold Lib.compareBytes Op.bytesLess
    by_cases h1 : a < b
    · simp [h1]
    · by_cases h2 : b < a
      · have hne : a ≠ b := fun h => by subst h; exact h1 h2
        simp [h1, h2, hne]
      · have he : a = b := UInt8.le_antisymm (UInt8.not_lt.1 h2) (UInt8.not_lt.1 h1)
        subst he
        simp [h1, ih]
/-- is one ahead? -/
def lessI (k n : Int) (s : ByteArray) (k' n' : Int) (s' : ByteArray) : Bool :=
  if k = k' then (if n = n' then Op.bytesLess s.toList s'.toList else decide (n < n')) else decide (k < k')
theorem cmp_less (k n : Int) (s : ByteArray) (k' n' : Int) (s' : ByteArray) :
    cmpI k n s k' n' s' = if lessI k n s k' n' s' = true then -1 else if lessI k' n' s' k n s = true then 1 else 0 := by
  unfold cmpI lessI
  by_cases hk : k = k'
  · subst hk
    rw [if_neg (by omega), if_neg (by omega), if_pos rfl, if_pos rfl]
    by_cases hn : n = n'
    · subst hn
      rw [if_neg (by omega), if_neg (by omega), if_pos rfl, if_pos rfl, compare_less, ByteArray.toList_eq, ByteArray.toList_eq]
    · rw [if_neg hn, if_neg (show ¬ n' = n from fun h => hn h.symm)]
      by_cases h1 : n < n'
      · rw [if_pos h1, if_pos (by simpa using h1)]
      · have h2 : n' < n := by omega
        rw [if_neg h1, if_pos h2, if_neg (by simpa using (by omega : n' ≤ n)), if_pos (by simpa using h2)]
  · rw [if_neg hk, if_neg (show ¬ k' = k from fun h => hk h.symm)]
    by_cases h1 : k < k'
    · rw [if_pos h1, if_pos (by simpa using h1)]
    · have h2 : k' < k := by omega
      rw [if_neg h1, if_pos h2, if_neg (by simpa using (by omega : k' ≤ k)), if_pos (by simpa using h2)]
theorem compareInt_eq {x y : Int} (h : x = y) : Lib.compareInt x y = 0 := by unfold Lib.compareInt; rw [if_neg (by omega), if_neg (by omega)]
theorem compareInt_lt {x y : Int} (h : x < y) : Lib.compareInt x y = -1 := by unfold Lib.compareInt; rw [if_pos h]
theorem compareInt_gt {x y : Int} (h : y < x) : Lib.compareInt x y = 1 := by unfold Lib.compareInt; rw [if_neg (by omega), if_pos h]

end Go.Proofs.YtkcejelmohameaaGreatDoor
set_option linter.unusedVariables false
namespace Go.Proofs.YtkcejelmohameaaGreatDoor
open Go.RowKit

theorem less_list : ∀ x y : List UInt8, Op.bytesLess x y = true ↔ x < y
  | [], [] => by simp [Op.bytesLess]
  | [], y :: ys => by simp [Op.bytesLess]
  | x :: xs, [] => by simp [Op.bytesLess]
  | x :: xs, y :: ys => by
    have ih := less_list xs ys
    unfold Op.bytesLess
    rw [List.cons_lt_cons_iff]
    by_cases h1 : x < y
    · simp [h1]
    · by_cases h2 : x = y
      · subst h2; simp [h1, ih]
      · simp [h1, h2]
/-- one stands ahead -/
def Ahead (x y : It) : Prop := x.kind < y.kind ∨ (x.kind = y.kind ∧ (x.n < y.n ∨ (x.n = y.n ∧ x.s.toList < y.s.toList)))
def cmpT (x y : It) : Int := cmpI x.kind x.n x.s y.kind y.n y.s
theorem less_ahead (x y : It) : lessI x.kind x.n x.s y.kind y.n y.s = true ↔ Ahead x y := by
  unfold lessI Ahead
  by_cases hk : x.kind = y.kind
  · rw [if_pos hk]
    by_cases hn : x.n = y.n
    · rw [if_pos hn, less_list]
      constructor
      · intro h; exact .inr ⟨hk, .inr ⟨hn, h⟩⟩
      · rintro (h | ⟨_, h | ⟨_, h⟩⟩)
        · omega
        · omega
        · exact h
    · rw [if_neg hn, decide_eq_true_eq]
      constructor
      · intro h; exact .inr ⟨hk, .inl h⟩
      · rintro (h | ⟨_, h | ⟨h, _⟩⟩)
        · omega
        · exact h
        · exact absurd h hn
  · rw [if_neg hk, decide_eq_true_eq]
    constructor
    · intro h; exact .inl h
    · rintro (h | ⟨h, _⟩)
      · exact h
      · exact absurd h hk
theorem list_tri (a b : List UInt8) : a < b ∨ a = b ∨ b < a := by
  by_cases h1 : a < b
  · exact .inl h1
  · by_cases h2 : b < a
    · exact .inr (.inr h2)
    · exact .inr (.inl (List.le_antisymm h2 h1))
theorem it_ext {x y : It} (h1 : x.kind = y.kind) (h2 : x.n = y.n) (h3 : x.s.toList = y.s.toList) : x = y := by
  cases x; cases y
  simp only at h1 h2 h3
  subst h1 h2
  congr 1
  rw [ByteArray.toList_eq, ByteArray.toList_eq] at h3
  exact ByteArray.ext (Array.toList_inj.1 h3)
theorem ahead_tri (x y : It) : Ahead x y ∨ x = y ∨ Ahead y x := by
  rcases Int.lt_trichotomy x.kind y.kind with h | h | h
  · exact .inl (.inl h)
  · rcases Int.lt_trichotomy x.n y.n with h' | h' | h'
    · exact .inl (.inr ⟨h, .inl h'⟩)
    · rcases list_tri x.s.toList y.s.toList with h'' | h'' | h''
      · exact .inl (.inr ⟨h, .inr ⟨h', h''⟩⟩)
      · exact .inr (.inl (it_ext h h' h''))
      · exact .inr (.inr (.inr ⟨h.symm, .inr ⟨h'.symm, h''⟩⟩))
    · exact .inr (.inr (.inr ⟨h.symm, .inl h'⟩))
  · exact .inr (.inr (.inl h))
theorem ahead_irr (x : It) : ¬ Ahead x x := by
  rintro (h | ⟨_, h | ⟨_, h⟩⟩)
  · omega
  · omega
  · exact List.lt_irrefl _ h
theorem ahead_trans {x y z : It} (h : Ahead x y) (h' : Ahead y z) : Ahead x z := by
  rcases h with h | ⟨h1, h⟩ <;> rcases h' with h' | ⟨h1', h'⟩
  · exact .inl (by omega)
  · exact .inl (by omega)
  · exact .inl (by omega)
  · refine .inr ⟨by omega, ?_⟩
    rcases h with h | ⟨h2, h⟩ <;> rcases h' with h' | ⟨h2', h'⟩
    · exact .inl (by omega)
    · exact .inl (by omega)
    · exact .inl (by omega)
    · exact .inr ⟨by omega, List.lt_trans h h'⟩
theorem cmpT_lt {x y : It} (h : Ahead x y) : cmpT x y = -1 := by
  unfold cmpT; rw [cmp_less, if_pos ((less_ahead x y).2 h)]
theorem cmpT_gt {x y : It} (h : Ahead y x) : cmpT x y = 1 := by
  unfold cmpT
  rw [cmp_less, if_neg (fun e => ahead_irr x (ahead_trans ((less_ahead x y).1 e) h)), if_pos ((less_ahead y x).2 h)]
theorem cmpT_eq (x : It) : cmpT x x = 0 := by
  unfold cmpT
  rw [cmp_less, if_neg (fun e => ahead_irr x ((less_ahead x x).1 e)), if_neg (fun e => ahead_irr x ((less_ahead x x).1 e))]
end Go.Proofs.YtkcejelmohameaaGreatDoor
