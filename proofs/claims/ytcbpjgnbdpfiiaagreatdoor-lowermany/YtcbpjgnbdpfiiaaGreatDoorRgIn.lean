/-
  A REGION THAT DRAWS ITS ORDER, BY ITS SLOTS, WITHIN A ROUND of a range over a function (at the wide fence).
-/
import Derived.Test.YtcbpjgnbdpfiiaaGreatDoorRows
import Derived.Test.YtcbpjgnbdpfiiaaGreatDoorUnroll
import Derived.Test.YtcbpjgnbdpfiiaaGreatDoorShelf
import Derived.WalkKit
import Derived.WalkSpells
import Derived.WalkLawsBesides
import Derived.Outline
import Derived.Lib.LaidU8T
import Derived.Deep.Strs
import Derived.Deep.Slices
import Derived.ProofKit
import Derived.SizedLaws
import Derived.Laws.BytesArg
import Derived.WideShapes
import Derived.OpenShut
import Derived.Maps.AppendAt
import Derived.OwnWalk
import Derived.Laws.OwnMore
import Derived.Test.YtcbpjgnbdpfiiaaGreatDoorRg
import Derived.Test.YtcbpjgnbdpfiiaaGreatDoorTcPlain
import Derived.Test.YtcbpjgnbdpfiiaaGreatDoorProg
import Derived.ChangeSame
import Derived.Laws.Rows
import Derived.BigQuiet
import Derived.Deep.QuietTactic
import Derived.Sort.AtCall
import Derived.Deep.Cut
import Derived.RegionTactic
import Derived.Deep.RegionHeld3
import Derived.Defers
import Derived.Lib.IndexAny
import Derived.OrdersIn
import Derived.RangeFuncCalls
namespace Go.Proofs.YtcbpjgnbdpfiiaaGreatDoor
open Go.RowKit Go.Shelf

/-- the two tables of unicode/utf8 hold what their initialisers lay -/
def Tabs (w : World) : Prop := Lib.Utf8Tabs (Tryz.laysValid_ren.g 3) (Tryz.laysValid_ren.g 4) w
theorem valid_any (s : ByteArray) (w : World) (hs : s.size ≤ 9223372036854775807) (hT : Tabs w) :
    Calls Tryz.prog 115 #[.string s] w fun e w' => e = .returned (.bool (Lib.validD s.data.toList)) ∧ Below w.heap.size w w' :=
  Any.utf8_ValidString Tryz.laysValid s w hs hT

set_option maxHeartbeats 800000 in
theorem checkText_any (s : ByteArray) (w : World) (hs : s.size ≤ maxLen) (hT : Tabs w) :
    Calls Tryz.prog 65 #[.string s] w fun e w' => e = .returned (.int .i64 (textF s)) ∧ Below w.heap.size w w' := by
  unfold maxLen at hs
  have cV := valid_any s w hs hT
  have CV : Hid (Calls Tryz.prog 115 #[.string s] w fun e w' => e = .returned (.bool (Lib.validD s.data.toList)) ∧ Below w.heap.size w w') := cV
  clear cV hT
  by_cases h1 : 20000 < s.size
  · have H' : Hid (textF s = 1) := textF_size h1
    go_enter Tryz.func65, Tryz.ntmps65
    go_wp2
    all_goals
      go_ret
      exact ⟨ret_int H'.out.symm, Below.refl _ _⟩
  · have hhi : s.size ≤ 20000 := by omega
    have H1 : Hid (¬ 20000 < s.size) := h1
    clear h1 hs
    cases hv : Lib.validD s.data.toList
    · have H' : Hid (textF s = 4) := textF_no H1.out (by rw [hv, Bool.false_and])
      go_enter Tryz.func65, Tryz.ntmps65
      go_wp2_with (go_at_call 115; refine CV.out.mono ?_; rintro e w1 ⟨rfl, hb⟩)
      go_ret
      exact ⟨ret_int H'.out.symm, hb⟩
    · have HV : Hid (Lib.validD s.data.toList = true) := hv
      go_enter Tryz.func65, Tryz.ntmps65
      go_wp2_with (go_at_call 115; refine CV.out.mono ?_; rintro e w1 ⟨rfl, hb⟩)
      have HBL : Hid (Below w.heap.size w w1) := hb
      clear hb CV
      go_loop [13] (fun i => ∃ k : Nat, k ≤ s.size ∧ i = .int .i64 k ∧ ctlTo s k = true) (fun i => s.size - (intOf i).toNat)
      case atStart => exact ⟨0, Nat.zero_le _, rfl, rfl⟩
      case round =>
        obtain ⟨k, hk, rfl, hok⟩ := hrel
        have HO : Hid (ctlTo s k = true) := hok
        clear hok
        by_cases hlt : k < s.size
        · have HE : Hid ((s[k].toNat : Int) = byteAt s k) := byteAt_eq s k hlt
          cases hc : ctl (s[k].toNat : Int)
          · have HC : Hid (ctl (byteAt s k) = false) := HE.out ▸ hc
            obtain ⟨c1, c2, c3, c4, c5⟩ := ctl_no hc
            clear hc
            go_wp2
            go_ret
            exact ⟨ret_int (textF_ctl H1.out hlt HC.out).symm, HBL.out⟩
          · have HC : Hid (ctl (byteAt s k) = true) := HE.out ▸ hc
            have hc' := ctl_yes hc
            clear hc
            rcases hc' with c1 | ⟨c1, c2, c3⟩ | ⟨c1, c2, c3, c4, c5⟩
            all_goals
              go_wp2
              go_round
              case rel => exact ⟨k + 1, by omega, by go_num, by rw [ctlTo_succ, HO.out, HC.out]; rfl⟩
              case measure => simp [intOf]; omega
        · go_wp2
          go_ret
          have e : k = s.size := by omega
          exact ⟨ret_int (textF_ok H1.out HV.out (e ▸ HO.out)).symm, HBL.out⟩

end Go.Proofs.YtcbpjgnbdpfiiaaGreatDoor
set_option linter.unusedVariables false
namespace Go.Proofs.YtcbpjgnbdpfiiaaGreatDoor
set_option maxRecDepth 100000
open Go.RowKit Go.ChangeShapes Go.WideShapes Go.Deep

/-- texts in memory -/
def StrsAt (w : World) (b off n : Nat) (C : Nat → ByteArray) : Prop := ∀ i, i < n → w.cell? ⟨b, off + i, none⟩ = some (.string (C i))
/-- the value is a list of n texts; if there are any they lie there -/
def StrsIs (w : World) (v : Value) (n : Nat) (C : Nat → ByteArray) : Prop :=
  ∃ a cap, v = .slice a n cap ∧ n ≤ cap ∧ cap ≤ maxLen ∧ (a = none → cap = 0) ∧ (0 < n → ∃ b off, a = some ⟨b, off, none⟩ ∧ b < w.heap.size ∧ StrsAt w b off n C)
/-- items in memory -/
def ItsAt (w : World) (b off n : Nat) (X : Nat → It) : Prop :=
  ∀ i, i < n → w.cell? ⟨b, off + i * 3, none⟩ = some (.int .i64 (X i).kind) ∧ w.cell? ⟨b, off + i * 3 + 1, none⟩ = some (.int .i64 (X i).n) ∧ w.cell? ⟨b, off + i * 3 + 2, none⟩ = some (.string (X i).s)
def ItsIs (w : World) (v : Value) (n : Nat) (X : Nat → It) : Prop :=
  ∃ a cap, v = .slice a n cap ∧ n ≤ cap ∧ cap ≤ maxLen ∧ (a = none → cap = 0) ∧ (0 < n → ∃ b off, a = some ⟨b, off, none⟩ ∧ b < w.heap.size ∧ ItsAt w b off n X)
/-- rows in memory: each a list of items -/
def RowsAt (w : World) (b off m : Nat) (R : Nat → Row) : Prop := ∀ i, i < m → ∃ u, w.cell? ⟨b, off + i, none⟩ = some u ∧ ItsIs w u (R i).len (R i).at_
def RowsIs (w : World) (v : Value) (m : Nat) (R : Nat → Row) : Prop :=
  ∃ a cap, v = .slice a m cap ∧ m ≤ cap ∧ cap ≤ maxLen ∧ (a = none → cap = 0) ∧ (0 < m → ∃ b off, a = some ⟨b, off, none⟩ ∧ b < w.heap.size ∧ RowsAt w b off m R)
theorem StrsAt.below {w w' : World} {b off n B : Nat} {C : Nat → ByteArray} (h : StrsAt w b off n C) (hb : Below B w w') (hB : b < B) : StrsAt w' b off n C :=
  fun i hi => (hb.cell (p := ⟨b, off + i, none⟩) hB).trans (h i hi)
theorem StrsIs.below {w w' : World} {v : Value} {n : Nat} {C : Nat → ByteArray} (h : StrsIs w v n C) (hb : Below w.heap.size w w') : StrsIs w' v n C := by
  obtain ⟨a, cap, h1, h2, h3, hn, h4⟩ := h
  refine ⟨a, cap, h1, h2, h3, hn, fun h0 => ?_⟩
  obtain ⟨b, off, h5, h6, h7⟩ := h4 h0
  exact ⟨b, off, h5, Nat.lt_of_lt_of_le h6 hb.size, h7.below hb h6⟩
theorem ItsAt.below {w w' : World} {b off n B : Nat} {X : Nat → It} (h : ItsAt w b off n X) (hb : Below B w w') (hB : b < B) : ItsAt w' b off n X :=
  fun i hi => ⟨(hb.cell (p := ⟨b, off + i * 3, none⟩) hB).trans (h i hi).1, (hb.cell (p := ⟨b, off + i * 3 + 1, none⟩) hB).trans (h i hi).2.1, (hb.cell (p := ⟨b, off + i * 3 + 2, none⟩) hB).trans (h i hi).2.2⟩
theorem ItsIs.below {w w' : World} {v : Value} {n : Nat} {X : Nat → It} (h : ItsIs w v n X) (hb : Below w.heap.size w w') : ItsIs w' v n X := by
  obtain ⟨a, cap, h1, h2, h3, hn, h4⟩ := h
  refine ⟨a, cap, h1, h2, h3, hn, fun h0 => ?_⟩
  obtain ⟨b, off, h5, h6, h7⟩ := h4 h0
  exact ⟨b, off, h5, Nat.lt_of_lt_of_le h6 hb.size, h7.below hb h6⟩
theorem RowsIs.below {w w' : World} {v : Value} {m : Nat} {R : Nat → Row} (h : RowsIs w v m R) (hb : Below w.heap.size w w') : RowsIs w' v m R := by
  obtain ⟨a, cap, h1, h2, h3, hn, h4⟩ := h
  refine ⟨a, cap, h1, h2, h3, hn, fun h0 => ?_⟩
  obtain ⟨b, off, h5, h6, h7⟩ := h4 h0
  refine ⟨b, off, h5, Nat.lt_of_lt_of_le h6 hb.size, fun i hi => ?_⟩
  obtain ⟨u, k1, k2⟩ := h7 i hi
  exact ⟨u, (hb.cell (p := ⟨b, off + i, none⟩) h6).trans k1, k2.below hb⟩
end Go.Proofs.YtcbpjgnbdpfiiaaGreatDoor
namespace Go.Proofs.YtcbpjgnbdpfiiaaGreatDoor
open Go.RowKit

set_option maxHeartbeats 400000 in
theorem isName_any (c : Int) (f : Bool) (w : World) :
    Calls Tryz.prog 144 #[.int .u8 c, .bool f] w fun e w' => e = .returned (.bool (nb c f)) ∧ w' = w := by
  cases f
  all_goals
    go_enter Tryz.func144, Tryz.ntmps144
    go_wp2
    all_goals
      go_ret
      refine ⟨ret_bool ?_, rfl⟩
      rw [Bool.eq_iff_iff]
      simp_all [nb]
      try omega

set_option maxHeartbeats 800000 in
theorem checkName_any (s : ByteArray) (w : World) (hs : s.size ≤ maxLen) :
    Calls Tryz.prog 123 #[.string s] w fun e w' => e = .returned (.int .i64 (nameF s)) ∧ w' = w := by
  unfold maxLen at hs
  by_cases h1 : s.size < 1 ∨ 20 < s.size
  · have H' : Hid (nameF s = 1) := nameF_size h1
    go_enter Tryz.func123, Tryz.ntmps123
    go_wp2
    all_goals
      go_ret
      exact ⟨ret_int H'.out.symm, rfl⟩
  · have hlo : 1 ≤ s.size := by omega
    have hhi : s.size ≤ 20 := by omega
    have H1 : Hid (¬ (s.size < 1 ∨ 20 < s.size)) := h1
    clear h1 hs
    go_enter Tryz.func123, Tryz.ntmps123
    go_wp2
    go_loop [14] (fun i => ∃ k : Nat, k ≤ s.size ∧ i = .int .i64 k ∧ nameTo s k = true) (fun i => s.size - (intOf i).toNat)
    case atStart => exact ⟨0, Nat.zero_le _, rfl, rfl⟩
    case round =>
      obtain ⟨k, hk, rfl, hok⟩ := hrel
      have HO : Hid (nameTo s k = true) := hok
      clear hok
      by_cases hlt : k < s.size
      · have hbe := byteAt_eq s k hlt
        cases hn : nb (s[k].toNat : Int) ((k : Int) == 0)
        · have HB : Hid (nb (byteAt s k) ((k : Int) == 0) = false) := hbe ▸ hn
          clear hbe
          go_wp2_with (go_at_call 144; refine (isName_any _ _ _).mono ?_; rintro e w' ⟨rfl, rfl⟩)
          go_ret
          exact ⟨ret_int (nameF_no H1.out hlt HB.out).symm, rfl⟩
        · have HB : Hid (nb (byteAt s k) ((k : Int) == 0) = true) := hbe ▸ hn
          clear hbe
          go_wp2_with (go_at_call 144; refine (isName_any _ _ _).mono ?_; rintro e w' ⟨rfl, rfl⟩)
          go_round
          case rel => exact ⟨k + 1, by omega, by go_num, by rw [nameTo_succ, HO.out, HB.out]; rfl⟩
          case measure => simp [intOf]; omega
      · go_wp2
        go_ret
        have e : k = s.size := by omega
        exact ⟨ret_int (nameF_ok H1.out (e ▸ HO.out)).symm, rfl⟩

end Go.Proofs.YtcbpjgnbdpfiiaaGreatDoor
set_option linter.unusedVariables false
namespace Go.Proofs.YtcbpjgnbdpfiiaaGreatDoor
open Go.RowKit

theorem inBounds_any (n : Int) (w : World) :
    Calls Tryz.prog 155 #[.int .i64 n] w fun e w' => e = .returned (.bool (inB n (-1099511627776) 1099511627776)) ∧ w' = w := by
  go_enter Tryz.func155, Tryz.ntmps155
  go_wp2
  all_goals
    go_ret
    refine ⟨ret_bool ?_, rfl⟩
    simp_all [inB] <;> omega

set_option maxHeartbeats 800000 in
theorem mayBe_any (k n : Int) (s : ByteArray) (w : World) (hs : s.size ≤ maxLen) (hT : Tabs w) :
    Calls Tryz.prog 143 #[.agg #[.int .i64 k, .int .i64 n, .string s]] w fun e w' => e = .returned (.bool (mayI ⟨k, n, s⟩)) ∧ Below w.heap.size w w' := by
  have CL : Hid (∀ o, Calls Tryz.prog 65 #[.string s] (w.alloc o) fun e w' => e = .returned (.int .i64 (textF s)) ∧ Below (w.alloc o).heap.size (w.alloc o) w') :=
    fun o => checkText_any s _ hs (Utf8Tabs_below hT ((Below.refl _ _).alloc (Nat.le_refl _) _))
  have HK : Hid (mayI ⟨k, n, s⟩ = if k = 1 then decide (s.size = 0 ∧ 0 ≤ n ∧ n < 100000) else if k = 2 then decide (s.size = 0 ∧ -1099511627776 ≤ n ∧ n ≤ 1099511627776) else if k = 3 then decide (n = 0 ∧ textF s = 0) else if k = 4 then decide (s.size = 0 ∧ (n = 0 ∨ n = 1)) else false) := rfl
  generalize mayI ⟨k, n, s⟩ = R at HK
  clear hT hs
  by_cases k3 : k = 3
  · subst k3
    have HF : Hid (R = decide (n = 0 ∧ textF s = 0)) := HK.out
    clear HK
    generalize textF s = B at *
    by_cases hn : n = 0
    · subst hn
      by_cases hb : B = 0
      · subst hb
        have HR : Hid (R = true) := HF.out.trans (decide_eq_true ⟨rfl, rfl⟩)
        clear HF
        go_enter Tryz.func143, Tryz.ntmps143
        go_wp2_with (first | (go_at_call 65; refine (CL.out _).mono ?_; rintro e w2 ⟨rfl, hb⟩))
        go_ret
        exact ⟨ret_bool HR.out.symm, ((Below.refl _ _).alloc (Nat.le_refl _) _).trans (hb.mono (by simp))⟩
      · have HR : Hid (R = false) := HF.out.trans (decide_eq_false (fun h => hb h.2))
        have hb' : (B == 0) = false := by simpa using hb
        clear HF hb
        go_enter Tryz.func143, Tryz.ntmps143
        go_wp2_with (first | (go_at_call 65; refine (CL.out _).mono ?_; rintro e w2 ⟨rfl, hb⟩))
        go_ret
        exact ⟨ret_bool HR.out.symm, ((Below.refl _ _).alloc (Nat.le_refl _) _).trans (hb.mono (by simp))⟩
    · have HR : Hid (R = false) := HF.out.trans (decide_eq_false (fun h => hn h.1))
      have hn' : (n == 0) = false := by simpa using hn
      clear HF hn
      go_enter Tryz.func143, Tryz.ntmps143
      go_wp2
      go_ret
      exact ⟨ret_bool HR.out.symm, (Below.refl _ _).alloc (Nat.le_refl _) _⟩
  clear CL
  by_cases k1 : k = 1
  · subst k1
    have HF : Hid (R = decide (s.size = 0 ∧ 0 ≤ n ∧ n < 100000)) := HK.out
    clear HK k3
    by_cases hz : s.size = 0
    · have he := isEmpty_yes hz
      have HR : Hid (R = decide (0 ≤ n ∧ n < 100000)) := HF.out.trans (decide_eq_decide.2 ⟨fun h => h.2, fun h => ⟨hz, h⟩⟩)
      clear HF hz
      go_enter Tryz.func143, Tryz.ntmps143
      go_wp2
      all_goals
        go_ret
        refine ⟨ret_bool ?_, (Below.refl _ _).alloc (Nat.le_refl _) _⟩
        rw [HR.out, Bool.eq_iff_iff]
        simp <;> omega
    · have he := isEmpty_no hz
      have HR : Hid (R = false) := HF.out.trans (decide_eq_false (fun h => hz h.1))
      clear HF hz
      go_enter Tryz.func143, Tryz.ntmps143
      go_wp2
      go_ret
      exact ⟨ret_bool HR.out.symm, (Below.refl _ _).alloc (Nat.le_refl _) _⟩
  by_cases k2 : k = 2
  · subst k2
    have HF : Hid (R = decide (s.size = 0 ∧ -1099511627776 ≤ n ∧ n ≤ 1099511627776)) := HK.out
    clear HK k3 k1
    by_cases hz : s.size = 0
    · have he := isEmpty_yes hz
      have HR : Hid (R = inB n (-1099511627776) 1099511627776) := HF.out.trans (decide_eq_decide.2 ⟨fun h => h.2, fun h => ⟨hz, h⟩⟩)
      clear HF hz
      go_enter Tryz.func143, Tryz.ntmps143
      go_wp2_with (first | (go_at_call 155; refine (inBounds_any _ _).mono ?_; rintro e w2 ⟨rfl, rfl⟩))
      go_ret
      exact ⟨ret_bool HR.out.symm, (Below.refl _ _).alloc (Nat.le_refl _) _⟩
    · have he := isEmpty_no hz
      have HR : Hid (R = false) := HF.out.trans (decide_eq_false (fun h => hz h.1))
      clear HF hz
      go_enter Tryz.func143, Tryz.ntmps143
      go_wp2
      go_ret
      exact ⟨ret_bool HR.out.symm, (Below.refl _ _).alloc (Nat.le_refl _) _⟩
  by_cases k4 : k = 4
  · subst k4
    have HF : Hid (R = decide (s.size = 0 ∧ (n = 0 ∨ n = 1))) := HK.out
    clear HK k3 k1 k2
    by_cases hz : s.size = 0
    · have he := isEmpty_yes hz
      have HR : Hid (R = decide (n = 0 ∨ n = 1)) := HF.out.trans (decide_eq_decide.2 ⟨fun h => h.2, fun h => ⟨hz, h⟩⟩)
      clear HF hz
      by_cases h0 : n = 0
      · subst h0
        go_enter Tryz.func143, Tryz.ntmps143
        go_wp2
        go_ret
        exact ⟨ret_bool HR.out.symm, (Below.refl _ _).alloc (Nat.le_refl _) _⟩
      · have h0' : (n == 0) = false := by simpa using h0
        have HR' : Hid (R = (n == 1)) := HR.out.trans (by rw [Bool.eq_iff_iff]; simp [h0])
        clear h0 HR
        go_enter Tryz.func143, Tryz.ntmps143
        go_wp2
        all_goals
          go_ret
          refine ⟨ret_bool ?_, (Below.refl _ _).alloc (Nat.le_refl _) _⟩
          first | exact HR'.out.symm | (rw [HR'.out]; simp_all)
    · have he := isEmpty_no hz
      have HR : Hid (R = false) := HF.out.trans (decide_eq_false (fun h => hz h.1))
      clear HF hz
      go_enter Tryz.func143, Tryz.ntmps143
      go_wp2
      go_ret
      exact ⟨ret_bool HR.out.symm, (Below.refl _ _).alloc (Nat.le_refl _) _⟩
  · have HR : Hid (R = false) := by
      have e : R = false := by rw [HK.out, if_neg k1, if_neg k2, if_neg k3, if_neg k4]
      exact e
    have c1 : (k == 1) = false := by simpa using k1
    have c2 : (k == 2) = false := by simpa using k2
    have c3 : (k == 3) = false := by simpa using k3
    have c4 : (k == 4) = false := by simpa using k4
    clear HK k1 k2 k3 k4
    go_enter Tryz.func143, Tryz.ntmps143
    go_wp2
    go_ret
    exact ⟨ret_bool HR.out.symm, (Below.refl _ _).alloc (Nat.le_refl _) _⟩

end Go.Proofs.YtcbpjgnbdpfiiaaGreatDoor
set_option linter.unusedVariables false
namespace Go.Proofs.YtcbpjgnbdpfiiaaGreatDoor
open Go.RowKit

/-- what is said of an item -/
def itemF (x : It) : Int := if mayI x = true then 0 else 12
set_option maxHeartbeats 400000 in
theorem checkItem_any (k n : Int) (s : ByteArray) (w : World) (hs : s.size ≤ maxLen) (hT : Tabs w) :
    Calls Tryz.prog 122 #[.agg #[.int .i64 k, .int .i64 n, .string s]] w fun e w' => e = .returned (.int .i64 (itemF ⟨k, n, s⟩)) ∧ Below w.heap.size w w' := by
  have CM : Hid (∀ o, Calls Tryz.prog 143 #[.agg #[.int .i64 k, .int .i64 n, .string s]] (w.alloc o) fun e w' => e = .returned (.bool (mayI ⟨k, n, s⟩)) ∧ Below (w.alloc o).heap.size (w.alloc o) w') :=
    fun o => mayBe_any k n s _ hs (Utf8Tabs_below hT ((Below.refl _ _).alloc (Nat.le_refl _) _))
  have HF : Hid (itemF ⟨k, n, s⟩ = if mayI ⟨k, n, s⟩ = true then 0 else 12) := rfl
  generalize itemF ⟨k, n, s⟩ = F at *
  generalize mayI ⟨k, n, s⟩ = M at *
  clear hT hs
  cases M
  all_goals
    go_enter Tryz.func122, Tryz.ntmps122
    go_wp2_with (first | (go_at_call 143; refine (CM.out _).mono ?_; rintro e w2 ⟨rfl, hb⟩))
    go_ret
    exact ⟨ret_int (by rw [HF.out]; rfl), ((Below.refl _ _).alloc (Nat.le_refl _) _).trans (hb.mono (by simp))⟩
end Go.Proofs.YtcbpjgnbdpfiiaaGreatDoor
set_option linter.unusedVariables false
namespace Go.Proofs.YtcbpjgnbdpfiiaaGreatDoor
set_option maxRecDepth 100000
open Go.RowKit Go.WideShapes

/-- the number that is picked -/
def pk (n many : Int) : Int := (if n < 0 then -(n + 1) else n).tmod many
theorem pk_range {n many : Int} (h0 : 0 < many) : 0 ≤ pk n many ∧ pk n many < many := by
  unfold pk
  have hx : 0 ≤ (if n < 0 then -(n + 1) else n) := by split <;> omega
  rw [Int.tmod_eq_emod_of_nonneg hx]
  exact ⟨Int.emod_nonneg _ (by omega), Int.emod_lt_of_pos _ h0⟩
set_option maxHeartbeats 400000 in
theorem picked_is (n many : Int) (w : World) (hn : -9223372036854775808 ≤ n ∧ n ≤ 9223372036854775807) (h0 : 0 < many) (hm : many ≤ 9223372036854775807) :
    Calls Tryz.prog 5 #[.int .i64 n, .int .i64 many] w fun e w' => e = .returned (.int .i64 (pk n many)) ∧ w' = w := by
  obtain ⟨n1, n2⟩ := hn
  have hz : ¬ many = 0 := by omega
  have hz1 : (many == 0) = false := by simpa using hz
  have hm1 : ¬ many = -1 := by omega
  have hm2 : (many == -1) = false := by simpa using hm1
  have hr := pk_range (n := n) h0
  by_cases hlt : n < 0
  · have HP : Hid (pk n many = (-(n + 1)).tmod many) := by
      have h : pk n many = (-(n + 1)).tmod many := by unfold pk; rw [if_pos hlt]
      exact h
    go_enter Tryz.func5, Tryz.ntmps5
    go_wp2
    go_ret
    exact ⟨ret_int (by rw [HP.out, Int.neg_tmod]), rfl⟩
  · have HP : Hid (pk n many = n.tmod many) := by
      have h : pk n many = n.tmod many := by unfold pk; rw [if_neg hlt]
      exact h
    go_enter Tryz.func5, Tryz.ntmps5
    go_wp2
    go_ret
    exact ⟨ret_int (by rw [HP.out, Int.tmod_eq_emod_of_nonneg (by omega)]), rfl⟩
end Go.Proofs.YtcbpjgnbdpfiiaaGreatDoor
set_option linter.unusedVariables false
namespace Go.Proofs.YtcbpjgnbdpfiiaaGreatDoor
open Go

theorem wp_val {P : Program} {o : Oper} {a : Act} {w w' : World} {K : Act → World → Prop} {Q : Exit → Act → World → Prop} {v : Value} (h : (execOp a.eval o).run P w = .ok (.value v) w') (hK : K (a.put o.dst v) w') : o.wp P a w K Q := by
  unfold Oper.wp
  rw [h]
  exact hK
theorem wp_skip {P : Program} {o : Oper} {a : Act} {w w' : World} {K : Act → World → Prop} {Q : Exit → Act → World → Prop} (h : (execOp a.eval o).run P w = .ok .skip w') (hK : K (a.put o.dst undef) w') : o.wp P a w K Q := by
  unfold Oper.wp
  rw [h]
  exact hK
theorem wp_enter {P : Program} {o : Oper} {a : Act} {w w' : World} {K : Act → World → Prop} {Q : Exit → Act → World → Prop} {f : FuncId} {args : Array Value} (h : (execOp a.eval o).run P w = .ok (.enter f args) w') (hc : Calls P f args w' fun e w'' => ∃ v, e = .returned v ∧ K (a.put o.dst v) w'') : o.wp P a w K Q := by
  unfold Oper.wp
  rw [h]
  show Calls P f args w' _
  refine hc.mono ?_
  rintro e w'' ⟨v, rfl, hv⟩
  exact hv
/-- no operation of the region writes this slot -/
def noDst (ops : Array Oper) (s : Nat) : Bool := (List.range ops.size).all fun i => decide ((ops[i]?).bind (·.dst) ≠ some s)
theorem SlotInv.given {ops : Array Oper} {a0 : Act} {D : Nat → Value → World → Prop} {G : Array Bool → Act → World → Prop} {listed : Array Bool} {a : Act} {w : World} (h : SlotInv ops a0 D G listed a w) (s : Nat) (v : Value) (hv : a0.tmps[s]? = some v) (hn : noDst ops s = true) : a.tmps[s]? = some v :=
  (h.old s fun j o ho hs => by
    unfold noDst at hn
    have := List.all_eq_true.1 hn j (List.mem_range.2 (Array.getElem?_eq_some_iff.1 ho).1)
    rw [ho] at this
    simp only [Option.bind_some, hs, ne_eq, not_true_eq_false, decide_false] at this
    cases this).trans hv
theorem set_other_get {listed : Array Bool} {i j : Nat} (h : i ≠ j) : (listed.setIfInBounds i true).getD j false = listed.getD j false := by rw [set_get, if_neg h]
theorem set_this_get {listed : Array Bool} {i n : Nat} (hs : listed.size = n) (hi : i < n) : (listed.setIfInBounds i true).getD i false = true := by rw [set_get, if_pos rfl, if_pos (by omega)]
theorem SlotInv.later2 {ops : Array Oper} {a0 : Act} {D : Nat → Value → World → Prop} {G : Array Bool → Act → World → Prop} {listed : Array Bool} {a : Act} {w : World} (h : SlotInv ops a0 D G listed a w) (j i : Nat) (o : Oper) (e : Edge) (ho : ops[j]? = some o) (he : e ∈ o.after) (hb : Region.binds .any e = true) (hon : e.on = i) (hl : listed.getD i false = false) : listed.getD j false = false := by
  cases hx : listed.getD j false with
  | false => rfl
  | true =>
    have := h.shut j o ho hx e he hb
    rw [hon, hl] at this
    cases this
theorem put_other {a : Act} {s t : Nat} {v : Value} (h : s ≠ t) : (a.put (some s) v).tmps[t]? = a.tmps[t]? := by rw [put_at, if_neg h]
theorem put_this {a : Act} {s : Nat} {v : Value} (h : s < a.tmps.size) : (a.put (some s) v).tmps[s]? = some v := by rw [put_at, if_pos rfl, if_pos h]
theorem want_none {o : Oper} {y : Nat → Option Bool} (h : o.guard = none) : Region.wanted o y = true := by
  unfold Region.wanted
  rw [h]
end Go.Proofs.YtcbpjgnbdpfiiaaGreatDoor
set_option linter.unusedVariables false
namespace Go.Proofs.YtcbpjgnbdpfiiaaGreatDoor
set_option maxRecDepth 100000
open Go.RowKit

/-- only one block is turned, and memory may have grown -/
def GrowA (pb : Nat) (w wr : World) : Prop := w.heap.size ≤ wr.heap.size ∧ wr.os = w.os ∧ wr.tape = w.tape ∧ wr.output = w.output ∧ ∀ b, b < w.heap.size → b ≠ pb → wr.heap[b]? = w.heap[b]?
theorem GrowA.refl (pb : Nat) (w : World) : GrowA pb w w := ⟨Nat.le_refl _, rfl, rfl, rfl, fun _ _ _ => rfl⟩
theorem GrowA.below {pb : Nat} {w wr w' : World} (h : GrowA pb w wr) (hb : Below wr.heap.size wr w') : GrowA pb w w' := ⟨Nat.le_trans h.1 hb.size, hb.os.trans h.2.1, hb.tape.trans h.2.2.1, hb.output.trans h.2.2.2.1, fun b h1 h2 => (hb.block b (Nat.lt_of_lt_of_le h1 h.1)).trans (h.2.2.2.2 b h1 h2)⟩
theorem GrowA.trans {pb : Nat} {a b c : World} (h : GrowA pb a b) (h' : GrowA pb b c) : GrowA pb a c := ⟨Nat.le_trans h.1 h'.1, h'.2.1.trans h.2.1, h'.2.2.1.trans h.2.2.1, h'.2.2.2.1.trans h.2.2.2.1, fun k h1 hk => (h'.2.2.2.2 k (Nat.lt_of_lt_of_le h1 h.1) hk).trans (h.2.2.2.2 k h1 hk)⟩
theorem GrowA.alloc {pb : Nat} {w wr : World} (h : GrowA pb w wr) (o : Obj) : GrowA pb w (wr.alloc o) := h.below ((Below.refl _ _).alloc (Nat.le_refl _) o)
theorem GrowA.drew {pb : Nat} {w wr : World} (h : GrowA pb w wr) : GrowA pb w wr.drew := h
theorem GrowA.set {pb : Nat} {w wr : World} (h : GrowA pb w wr) (t : Nat) (u : Value) : GrowA pb w (wr.setCell ⟨pb, t, none⟩ u) := ⟨by simpa using h.1, h.2.1, h.2.2.1, h.2.2.2.1, fun b h1 h2 => (Below.heap_setCell _ _ _ _ (by simpa using h2)).trans (h.2.2.2.2 b h1 h2)⟩
theorem GrowA.low {pb : Nat} {w w' : World} (h : GrowA pb w w') (hp : pb ≤ w.heap.size) : Below pb w w' := ⟨h.2.1, h.2.2.1, h.2.2.2.1, h.1, fun b hb => h.2.2.2.2 b (by omega) (by omega)⟩
theorem GrowA.cell {pb : Nat} {w w' : World} (h : GrowA pb w w') {b k : Nat} (hb : b < w.heap.size) (hn : b ≠ pb) : w'.cell? ⟨b, k, none⟩ = w.cell? ⟨b, k, none⟩ := World.cell?_of_block (h.2.2.2.2 b hb hn)
/-- where tokens lie -/
def ToksL (w : World) (b : Nat) (L : List Tok) : Prop := ∀ k (hk : k < L.length), w.cell? ⟨b, k * 3, none⟩ = some (.int .i64 L[k].kind) ∧ w.cell? ⟨b, k * 3 + 1, none⟩ = some (.string L[k].s) ∧ w.cell? ⟨b, k * 3 + 2, none⟩ = some (.int .i64 L[k].n)
theorem ToksL.grow {pb : Nat} {w w' : World} {b : Nat} {L : List Tok} (h : ToksL w b L) (hg : GrowA pb w w') (hb : b < w.heap.size) (hn : b ≠ pb) : ToksL w' b L := fun k hk => by
  obtain ⟨h1, h2, h3⟩ := h k hk
  exact ⟨(hg.cell hb hn).trans h1, (hg.cell hb hn).trans h2, (hg.cell hb hn).trans h3⟩
/-- what a parser knows: the place, the levels that are open, what is wrong -/
structure Pst where
  at' : Nat
  opn : Nat
  wrong : Int
/-- the parser lies there -/
structure PaS (w : World) (pb b c : Nat) (T : List Tok) (st : Pst) : Prop where
  l : w.cell? ⟨pb, 0, none⟩ = some (.slice (some ⟨b, 0, none⟩) T.length c)
  a : w.cell? ⟨pb, 1, none⟩ = some (.int .i64 st.at')
  o : w.cell? ⟨pb, 2, none⟩ = some (.int .i64 st.opn)
  e : w.cell? ⟨pb, 3, none⟩ = some (.int .i64 st.wrong)
  fa : w.frozen? ⟨pb, 1, none⟩ = false
  fo : w.frozen? ⟨pb, 2, none⟩ = false
  fe : w.frozen? ⟨pb, 3, none⟩ = false
  pl : pb < w.heap.size
  bl : b < w.heap.size
  ne : b ≠ pb
  ts : ToksL w b T
theorem PaS.below {w w' : World} {pb b c : Nat} {T : List Tok} {st : Pst} (h : PaS w pb b c T st) (hb : Below w.heap.size w w') : PaS w' pb b c T st :=
  ⟨(hb.cell (p := ⟨pb, 0, none⟩) h.pl).trans h.l, (hb.cell (p := ⟨pb, 1, none⟩) h.pl).trans h.a, (hb.cell (p := ⟨pb, 2, none⟩) h.pl).trans h.o, (hb.cell (p := ⟨pb, 3, none⟩) h.pl).trans h.e, (hb.frozen (p := ⟨pb, 1, none⟩) h.pl).trans h.fa, (hb.frozen (p := ⟨pb, 2, none⟩) h.pl).trans h.fo, (hb.frozen (p := ⟨pb, 3, none⟩) h.pl).trans h.fe, Nat.lt_of_lt_of_le h.pl hb.size, Nat.lt_of_lt_of_le h.bl hb.size, h.ne, fun k hk => by
    obtain ⟨h1, h2, h3⟩ := h.ts k hk
    exact ⟨(hb.cell (p := ⟨b, _, none⟩) h.bl).trans h1, (hb.cell (p := ⟨b, _, none⟩) h.bl).trans h2, (hb.cell (p := ⟨b, _, none⟩) h.bl).trans h3⟩⟩
theorem PaS.allocI {w : World} {pb b c : Nat} {T : List Tok} {st : Pst} (h : PaS w pb b c T st) (o : Obj) : PaS (w.alloc o) pb b c T st := h.below ((Below.refl _ _).alloc (Nat.le_refl _) o)
theorem PaS.toksSet {w : World} {pb b c : Nat} {T : List Tok} {st : Pst} (h : PaS w pb b c T st) (t : Nat) (u : Value) : ToksL (w.setCell ⟨pb, t, none⟩ u) b T := h.ts.grow ((GrowA.refl pb w).set t u) h.bl h.ne
theorem PaS.setA {w : World} {pb b c : Nat} {T : List Tok} {st : Pst} (h : PaS w pb b c T st) (n : Nat) : PaS (w.setCell ⟨pb, 1, none⟩ (.int .i64 n)) pb b c T { st with at' := n } :=
  ⟨by simp [go_sem, h.l], by simp [go_sem, h.a], by simp [go_sem, h.o], by simp [go_sem, h.e], by simp [go_sem, h.fa], by simp [go_sem, h.fo], by simp [go_sem, h.fe], by simpa using h.pl, by simpa using h.bl, h.ne, h.toksSet _ _⟩
theorem PaS.setO {w : World} {pb b c : Nat} {T : List Tok} {st : Pst} (h : PaS w pb b c T st) (n : Nat) : PaS (w.setCell ⟨pb, 2, none⟩ (.int .i64 n)) pb b c T { st with opn := n } :=
  ⟨by simp [go_sem, h.l], by simp [go_sem, h.a], by simp [go_sem, h.o], by simp [go_sem, h.e], by simp [go_sem, h.fa], by simp [go_sem, h.fo], by simp [go_sem, h.fe], by simpa using h.pl, by simpa using h.bl, h.ne, h.toksSet _ _⟩
theorem PaS.setE {w : World} {pb b c : Nat} {T : List Tok} {st : Pst} (h : PaS w pb b c T st) (n : Int) : PaS (w.setCell ⟨pb, 3, none⟩ (.int .i64 n)) pb b c T { st with wrong := n } :=
  ⟨by simp [go_sem, h.l], by simp [go_sem, h.a], by simp [go_sem, h.o], by simp [go_sem, h.e], by simp [go_sem, h.fa], by simp [go_sem, h.fo], by simp [go_sem, h.fe], by simpa using h.pl, by simpa using h.bl, h.ne, h.toksSet _ _⟩
/-- the token that is seen so many places ahead -/
def seeM (T : List Tok) (st : Pst) (a : Nat) : Tok := if st.wrong ≠ 0 ∨ T.length ≤ st.at' + a then tok0 else T.getD (st.at' + a) tok0
def eqT (t u : Tok) : Bool := decide (t.kind = u.kind) && decide (t.s = u.s) && decide (t.n = u.n)
def skipM (T : List Tok) (st : Pst) (t : Tok) : Bool × Pst := if eqT (seeM T st 0) t = true then (true, { st with at' := st.at' + 1 }) else (false, st)
def failM (st : Pst) (e : Int) : Pst := if st.wrong = 0 then { st with wrong := e } else st
def missM (T : List Tok) (st : Pst) : Pst := if st.at' = T.length then failM st 5 else failM st 4
def wantM (T : List Tok) (st : Pst) (t : Tok) : Pst := if (skipM T st t).1 = true then (skipM T st t).2 else missM T (skipM T st t).2
def enterM (T : List Tok) (st : Pst) (begins : Bool) : Pst :=
  let st' := if 30 ≤ st.opn then failM (if begins = true then st else missM T st) 8 else st
  { st' with opn := st'.opn + 1 }
end Go.Proofs.YtcbpjgnbdpfiiaaGreatDoor
set_option linter.unusedVariables false
namespace Go.Proofs.YtcbpjgnbdpfiiaaGreatDoor
set_option maxRecDepth 100000
open Go.RowKit

theorem below_drewA {B : Nat} {a w : World} (h : Below B a w) (q : Nat) : Below B a (w.drewN q) := ⟨h.os, h.tape, h.output, h.size, h.block⟩
theorem below_setA {B r : Nat} {a w : World} (h : Below B a w) (hr : B ≤ r) (k : Nat) (v : Value) : Below B a (w.setCell ⟨r, k, none⟩ v) := ⟨h.os, h.tape, h.output, by simpa using h.size, fun x hx => (Below.heap_setCell _ _ _ _ (by simp; omega)).trans (h.block x hx)⟩
theorem seeM_wrong {T : List Tok} {st : Pst} {a : Nat} (h : ¬ st.wrong = 0) : seeM T st a = tok0 := by unfold seeM; rw [if_pos (.inl h)]
theorem seeM_end {T : List Tok} {st : Pst} {a : Nat} (h : T.length ≤ st.at' + a) : seeM T st a = tok0 := by unfold seeM; rw [if_pos (.inr h)]
theorem seeM_at {T : List Tok} {st : Pst} {a : Nat} (h : st.wrong = 0) (hl : st.at' + a < T.length) : seeM T st a = T[st.at' + a] := by
  unfold seeM
  rw [if_neg (by omega), List.getD_eq_getElem?_getD, List.getElem?_eq_getElem hl]
  rfl
set_option maxHeartbeats 1600000 in
theorem see_is {w : World} {pb b c : Nat} {T : List Tok} {st : Pst} (h : PaS w pb b c T st) (a : Nat) (ha : a ≤ 2) (hT : T.length ≤ 200) (hat : st.at' ≤ 400) :
    Calls Tryz.prog 70 #[.pointer (some ⟨pb, 0, none⟩), .int .i64 a] w fun e w' => e = .returned (.agg #[.int .i64 (seeM T st a).kind, .string (seeM T st a).s, .int .i64 (seeM T st a).n]) ∧ Below w.heap.size w w' := by
  obtain ⟨x0, x1, x2, x3, f1, f2, f3, hp, hb, hne, hts⟩ := h
  by_cases hw : st.wrong = 0
  · by_cases hl : st.at' + a < T.length
    · rw [seeM_at hw hl]
      obtain ⟨t0, t1, t2⟩ := hts _ hl
      generalize T[st.at' + a] = t at t0 t1 t2
      obtain ⟨tk, ts, tn⟩ := t
      simp only at t0 t1 t2
      rw [hw] at x3
      obtain ⟨n, hn⟩ : ∃ n : Nat, n = st.at' + a := ⟨_, rfl⟩
      rw [← hn] at t0 t1 t2 hl
      have hwr : IntKind.i64.wrap ((st.at' : Int) + (a : Int)) = (n : Int) := by rw [hn]; rw [IntWalk.i64_in _ (by omega)]; simp
      have hge : ¬ ((T.length : Int) ≤ (n : Int)) := by omega
      have hlt : (n : Int) < (T.length : Int) := by omega
      generalize st.at' = at0 at *
      clear hts hn hw x2 f1 f2 f3
      go_enter Tryz.func70, Tryz.ntmps70
      go_upto_region 1 with fail
      go_quiet (fail)
      obtain ⟨W1, hW1⟩ : ∃ W, W = (w.alloc (.cells #[.int .i64 0, .string ⟨#[]⟩, .int .i64 0] 50)).drewN nq := ⟨_, rfl⟩
      have hb1 : Below w.heap.size w W1 := by rw [hW1]; exact below_drewA ((Below.refl _ _).alloc (Nat.le_refl _) _) nq
      have y0 := (hb1.cell (p := ⟨pb, 0, none⟩) hp).trans x0
      have y1 := (hb1.cell (p := ⟨pb, 1, none⟩) hp).trans x1
      have u0 := (hb1.cell (p := ⟨b, n * 3, none⟩) hb).trans t0
      have u1 := (hb1.cell (p := ⟨b, n * 3 + 1, none⟩) hb).trans t1
      have u2 := (hb1.cell (p := ⟨b, n * 3 + 2, none⟩) hb).trans t2
      have r0 : W1.cell? ⟨w.heap.size, 0, none⟩ = some (.int .i64 0) := by rw [hW1]; show (w.alloc _).cell? _ = _; simp
      have r1 : W1.cell? ⟨w.heap.size, 1, none⟩ = some (.string ⟨#[]⟩) := by rw [hW1]; show (w.alloc _).cell? _ = _; simp
      have r2 : W1.cell? ⟨w.heap.size, 2, none⟩ = some (.int .i64 0) := by rw [hW1]; show (w.alloc _).cell? _ = _; simp
      have g0 : W1.frozen? ⟨w.heap.size, 0, none⟩ = false := by rw [hW1]; show (w.alloc _).frozen? _ = _; simp
      have g1 : W1.frozen? ⟨w.heap.size, 1, none⟩ = false := by rw [hW1]; show (w.alloc _).frozen? _ = _; simp
      have g2 : W1.frozen? ⟨w.heap.size, 2, none⟩ = false := by rw [hW1]; show (w.alloc _).frozen? _ = _; simp
      have HB1 : Hid (Below w.heap.size w W1) := hb1
      rw [← hW1]
      obtain ⟨r, hr⟩ : ∃ r, r = w.heap.size := ⟨_, rfl⟩
      have hrl : r < W1.heap.size := by rw [hr, hW1]; show w.heap.size < (w.alloc _).heap.size; simp
      have hpr : pb ≠ r := by omega
      have hbr : b ≠ r := by omega
      rw [← hr] at r0 r1 r2 g0 g1 g2 ⊢
      have HR : Hid (r = w.heap.size) := hr
      clear hW1 hb1 x0 x1 x3 t0 t1 t2 hr
      go_upto_region 3 with fail
      go_region
      go_wp2
      refine bodyPost_ret (v := .agg #[.int .i64 tk, .string ts, .int .i64 tn]) (by simp [results, Tryz.results70, go_sem, r0, r1, r2]) rfl ⟨rfl, ?_⟩
      exact Below.drew (below_setA (below_setA (below_setA HB1.out (by have := HR.out; omega) _ _) (by have := HR.out; omega) _ _) (by have := HR.out; omega) _ _)
    · rw [seeM_end (by omega)]
      rw [hw] at x3
      obtain ⟨n, hn⟩ : ∃ n : Nat, n = st.at' + a := ⟨_, rfl⟩
      have hwr : IntKind.i64.wrap ((st.at' : Int) + (a : Int)) = (n : Int) := by rw [hn]; rw [IntWalk.i64_in _ (by omega)]; simp
      have hge : (T.length : Int) ≤ (n : Int) := by omega
      generalize st.at' = at0 at *
      clear hts hw x2 f1 f2 f3 hl hn
      go_enter Tryz.func70, Tryz.ntmps70
      go_upto_region 1 with fail
      go_quiet (fail)
      go_wp2
      refine bodyPost_ret (v := .agg #[.int .i64 0, .string ⟨#[]⟩, .int .i64 0]) (by simp [results, Tryz.results70, go_sem]) rfl ⟨rfl, ?_⟩
      exact below_setA (below_setA (below_setA (below_drewA ((Below.refl _ _).alloc (Nat.le_refl _) _) nq) (Nat.le_refl _) _ _) (Nat.le_refl _) _ _) (Nat.le_refl _) _ _
  · rw [seeM_wrong hw]
    have hwb : (st.wrong != 0) = true := by rw [bne_iff_ne]; exact hw
    generalize st.wrong = e0 at *
    clear hts x2 f1 f2 f3 x0 x1
    go_enter Tryz.func70, Tryz.ntmps70
    go_upto_region 1 with fail
    go_quiet (fail)
    go_wp2
    refine bodyPost_ret (v := .agg #[.int .i64 0, .string ⟨#[]⟩, .int .i64 0]) (by simp [results, Tryz.results70, go_sem]) rfl ⟨rfl, ?_⟩
    exact below_setA (below_setA (below_setA (below_drewA ((Below.refl _ _).alloc (Nat.le_refl _) _) nq) (Nat.le_refl _) _ _) (Nat.le_refl _) _ _) (Nat.le_refl _) _ _
end Go.Proofs.YtcbpjgnbdpfiiaaGreatDoor
set_option linter.unusedVariables false
namespace Go.Proofs.YtcbpjgnbdpfiiaaGreatDoor
set_option maxRecDepth 100000
open Go.RowKit

theorem mark_is (s : ByteArray) (w : World) : Calls Tryz.prog 71 #[.string s] w fun e w' => e = .returned (.agg #[.int .i64 5, .string s, .int .i64 0]) ∧ Below w.heap.size w w' := by
  go_enter Tryz.func71, Tryz.ntmps71
  go_wp2
  refine bodyPost_ret (v := .agg #[.int .i64 5, .string s, .int .i64 0]) (by simp [results, Tryz.results71, go_sem]) rfl ⟨rfl, ?_⟩
  repeat (first | exact Below.refl _ _ | refine below_setA ?_ (Nat.le_refl _) _ _ | refine Below.alloc ?_ (Nat.le_refl _) _)
theorem word_is (s : ByteArray) (w : World) : Calls Tryz.prog 117 #[.string s] w fun e w' => e = .returned (.agg #[.int .i64 1, .string s, .int .i64 0]) ∧ Below w.heap.size w w' := by
  go_enter Tryz.func117, Tryz.ntmps117
  go_wp2
  refine bodyPost_ret (v := .agg #[.int .i64 1, .string s, .int .i64 0]) (by simp [results, Tryz.results117, go_sem]) rfl ⟨rfl, ?_⟩
  repeat (first | exact Below.refl _ _ | refine below_setA ?_ (Nat.le_refl _) _ _ | refine Below.alloc ?_ (Nat.le_refl _) _)
theorem fail_is {w : World} {pb b c : Nat} {T : List Tok} {st : Pst} (h : PaS w pb b c T st) (e0 : Int) :
    Calls Tryz.prog 46 #[.pointer (some ⟨pb, 0, none⟩), .int .i64 e0] w fun e w' => e = .returned (.tuple #[]) ∧ PaS w' pb b c T (failM st e0) ∧ GrowA pb w w' := by
  have H : Hid (PaS w pb b c T st) := h
  obtain ⟨x0, x1, x2, x3, f1, f2, f3, hp, hb, hne, hts⟩ := h
  clear x0 x1 x2 f1 f2 hts
  unfold failM
  by_cases hw : st.wrong = 0
  · rw [if_pos hw]
    rw [hw] at x3
    clear hw
    go_enter Tryz.func46, Tryz.ntmps46
    go_wp2
    first
      | (go_end0; exact ⟨rfl, H.out.setE e0, (GrowA.refl _ _).set 3 _⟩)
      | (refine bodyPost_ret (v := .tuple #[]) (by simp [results, Tryz.results46, go_sem]) rfl ⟨rfl, H.out.setE e0, (GrowA.refl _ _).set 3 _⟩)
  · rw [if_neg hw]
    have hwb : (st.wrong == 0) = false := by rw [beq_eq_false_iff_ne]; exact hw
    generalize hq : st.wrong = q at x3 hw hwb
    go_enter Tryz.func46, Tryz.ntmps46
    go_wp2
    first
      | (go_end0; exact ⟨rfl, H.out, GrowA.refl _ _⟩)
      | (refine bodyPost_ret (v := .tuple #[]) (by simp [results, Tryz.results46, go_sem]) rfl ⟨rfl, H.out, GrowA.refl _ _⟩)
theorem miss_is {w : World} {pb b c : Nat} {T : List Tok} {st : Pst} (h : PaS w pb b c T st) :
    Calls Tryz.prog 22 #[.pointer (some ⟨pb, 0, none⟩)] w fun e w' => e = .returned (.tuple #[]) ∧ PaS w' pb b c T (missM T st) ∧ GrowA pb w w' := by
  have CF : Hid (∀ q e0, Calls Tryz.prog 46 #[.pointer (some ⟨pb, 0, none⟩), .int .i64 e0] (w.drewN q) fun e w' => e = .returned (.tuple #[]) ∧ PaS w' pb b c T (failM st e0) ∧ GrowA pb w w') := fun q e0 => (fail_is (h.below (below_drewA (Below.refl _ _) q)) e0).mono fun e w' ⟨k1, k2, k3⟩ => ⟨k1, k2, k3⟩
  obtain ⟨x0, x1, x2, x3, f1, f2, f3, hp, hb, hne, hts⟩ := h
  clear x2 x3 f1 f2 f3 hts
  unfold missM
  by_cases ha : st.at' = T.length
  · rw [if_pos ha]
    rw [ha] at x1
    clear ha
    go_enter Tryz.func22, Tryz.ntmps22
    go_upto_region 0 with fail
    go_quiet (fail)
    go_wp2_with (first | (go_at_call 46; refine (CF.out _ _).mono ?_; rintro e w1 ⟨rfl, hp1, hg1⟩))
    first
      | (go_end0; exact ⟨rfl, hp1, hg1⟩)
      | (refine bodyPost_ret (v := .tuple #[]) (by simp [results, Tryz.results22, go_sem]) rfl ⟨rfl, hp1, hg1⟩)
  · rw [if_neg ha]
    have hab : ((st.at' : Int) == (T.length : Int)) = false := by rw [beq_eq_false_iff_ne]; omega
    generalize st.at' = q at x1 ha hab
    go_enter Tryz.func22, Tryz.ntmps22
    go_upto_region 0 with fail
    go_quiet (fail)
    go_wp2_with (first | (go_at_call 46; refine (CF.out _ _).mono ?_; rintro e w1 ⟨rfl, hp1, hg1⟩))
    first
      | (go_end0; exact ⟨rfl, hp1, hg1⟩)
      | (refine bodyPost_ret (v := .tuple #[]) (by simp [results, Tryz.results22, go_sem]) rfl ⟨rfl, hp1, hg1⟩)
/-- how two tokens differ -/
theorem neqT {t u : Tok} (h : ¬ eqT t u = true) : (t.kind == u.kind) = false ∨ (u.kind = t.kind ∧ (t.s.toList == u.s.toList) = false) ∨ (u.kind = t.kind ∧ u.s = t.s ∧ (t.n == u.n) = false) := by
  by_cases h1 : t.kind = u.kind
  · by_cases h2 : t.s = u.s
    · refine .inr (.inr ⟨h1.symm, h2.symm, ?_⟩)
      rw [beq_eq_false_iff_ne]
      intro h3
      exact h (by unfold eqT; rw [decide_eq_true h1, decide_eq_true h2, decide_eq_true h3]; rfl)
    · refine .inr (.inl ⟨h1.symm, ?_⟩)
      rw [beq_eq_false_iff_ne]
      intro h3
      rw [ByteArray.toList_eq, ByteArray.toList_eq] at h3
      apply h2
      cases ht : t.s; cases hu : u.s
      rw [ht, hu] at h3
      congr 1
      exact Array.toList_inj.1 h3
  · exact .inl (by rw [beq_eq_false_iff_ne]; exact h1)
set_option maxHeartbeats 1600000 in
theorem skip_is {w : World} {pb b c : Nat} {T : List Tok} {st : Pst} (h : PaS w pb b c T st) (t : Tok) (hT : T.length ≤ 200) (hat : st.at' ≤ 300) :
    Calls Tryz.prog 74 #[.pointer (some ⟨pb, 0, none⟩), .agg #[.int .i64 t.kind, .string t.s, .int .i64 t.n]] w fun e w' => e = .returned (.bool (skipM T st t).1) ∧ PaS w' pb b c T (skipM T st t).2 ∧ GrowA pb w w' := by
  have HS : Hid (PaS w pb b c T st) := h
  obtain ⟨W1, hW1⟩ : ∃ W, W = w.alloc (.cells #[.int .i64 t.kind, .string t.s, .int .i64 t.n] 50) := ⟨_, rfl⟩
  have HB1 : Hid (Below w.heap.size w W1) := by rw [hW1]; exact (Below.refl _ _).alloc (Nat.le_refl _) _
  have r0 : W1.cell? ⟨w.heap.size, 0, none⟩ = some (.int .i64 t.kind) := by rw [hW1]; simp
  have r1 : W1.cell? ⟨w.heap.size, 1, none⟩ = some (.string t.s) := by rw [hW1]; simp
  have r2 : W1.cell? ⟨w.heap.size, 2, none⟩ = some (.int .i64 t.n) := by rw [hW1]; simp
  have hrl : w.heap.size < W1.heap.size := by rw [hW1]; simp
  have HSS : Hid (∀ W, Below W1.heap.size W1 W → W.cell? ⟨w.heap.size, 0, none⟩ = some (.int .i64 t.kind) ∧ W.cell? ⟨w.heap.size, 1, none⟩ = some (.string t.s) ∧ W.cell? ⟨w.heap.size, 2, none⟩ = some (.int .i64 t.n)) := fun W hb => ⟨(hb.cell (p := ⟨w.heap.size, 0, none⟩) hrl).trans r0, (hb.cell (p := ⟨w.heap.size, 1, none⟩) hrl).trans r1, (hb.cell (p := ⟨w.heap.size, 2, none⟩) hrl).trans r2⟩
  have CS : Hid (∀ W, Below W1.heap.size W1 W → Calls Tryz.prog 70 #[.pointer (some ⟨pb, 0, none⟩), .int .i64 0] W fun e w' => e = .returned (.agg #[.int .i64 (seeM T st 0).kind, .string (seeM T st 0).s, .int .i64 (seeM T st 0).n]) ∧ Below W1.heap.size W1 w') := fun W hW => (see_is ((h.below HB1.out).below hW) 0 (by omega) hT (by omega)).mono fun e w' ⟨k1, k2⟩ => ⟨k1, hW.trans (k2.mono hW.size)⟩
  unfold skipM
  generalize seeM T st 0 = u at CS
  obtain ⟨uk, us, un⟩ := u
  obtain ⟨tk, ts, tn⟩ := t
  simp only at r0 r1 r2 CS HSS hW1 ⊢
  clear r0 r1 r2 h
  by_cases he : eqT ⟨uk, us, un⟩ ⟨tk, ts, tn⟩ = true
  · rw [if_pos he]
    simp only [eqT, Bool.and_eq_true, decide_eq_true_eq] at he
    obtain ⟨⟨rfl, rfl⟩, rfl⟩ := he
    go_enter Tryz.func74, Tryz.ntmps74
    go_upto_region 1 with fail
    rw [← hW1]
    clear hW1
    go_region_held3 (fun W => W.cell? ⟨w.heap.size, 0, none⟩ = some (.int .i64 uk) ∧ W.cell? ⟨w.heap.size, 1, none⟩ = some (.string us) ∧ W.cell? ⟨w.heap.size, 2, none⟩ = some (.int .i64 un))
      ((refine HSS.out _ ?_; repeat (first | exact Hid.out (by assumption) | exact Below.refl _ _ | refine Below.drew ?_)))
      (first
        | (go_at_call 70; refine (CS.out _ ?_).mono ?_; (focus (repeat (first | exact Hid.out (by assumption) | exact Below.refl _ _ | refine Below.drew ?_))); rintro e w2 ⟨rfl, hb2⟩; have HB2 : Hid (Below W1.heap.size W1 w2) := hb2; clear hb2))
    have HB3 : Hid (Below w.heap.size w w2) := HB1.out.trans (HB2.out.mono HB1.out.size)
    have HP3 : Hid (PaS w2 pb b c T st) := HS.out.below HB3.out
    obtain ⟨x0, x1, x2, x3, f1, f2, f3, hp, hb, hne, hts⟩ := HP3.out
    have hwr : IntKind.i64.wrap ((st.at' : Int) + 1) = ((st.at' + 1 : Nat) : Int) := by rw [IntWalk.i64_in _ (by omega)]; simp
    have HF : Hid (PaS (w2.setCell ⟨pb, 1, none⟩ (.int .i64 ((st.at' + 1 : Nat) : Int))) pb b c T { st with at' := st.at' + 1 }) := HP3.out.setA _
    generalize ((st.at' + 1 : Nat) : Int) = q1 at hwr HF
    clear x0 x2 x3 f2 f3 hts
    go_wp2
    go_ret
    exact ⟨rfl, HF.out, ((GrowA.refl _ _).below HB3.out).set 1 _⟩
  · rw [if_neg he]
    have hd := neqT he
    clear he
    simp only at hd
    rcases hd with hd | ⟨rfl, hd⟩ | ⟨rfl, rfl, hd⟩
    · skip
      go_enter Tryz.func74, Tryz.ntmps74
      go_upto_region 1 with fail
      rw [← hW1]
      clear hW1
      go_region_held3 (fun W => W.cell? ⟨w.heap.size, 0, none⟩ = some (.int .i64 tk) ∧ W.cell? ⟨w.heap.size, 1, none⟩ = some (.string ts) ∧ W.cell? ⟨w.heap.size, 2, none⟩ = some (.int .i64 tn))
        ((refine HSS.out _ ?_; repeat (first | exact Hid.out (by assumption) | exact Below.refl _ _ | refine Below.drew ?_)))
        (first
          | (go_at_call 70; refine (CS.out _ ?_).mono ?_; (focus (repeat (first | exact Hid.out (by assumption) | exact Below.refl _ _ | refine Below.drew ?_))); rintro e w2 ⟨rfl, hb2⟩; have HB2 : Hid (Below W1.heap.size W1 w2) := hb2; clear hb2))
      all_goals
        have HB3 : Hid (Below w.heap.size w w2) := HB1.out.trans (HB2.out.mono HB1.out.size)
        go_wp2
        go_ret
        exact ⟨rfl, HS.out.below HB3.out, (GrowA.refl _ _).below HB3.out⟩
    · skip
      go_enter Tryz.func74, Tryz.ntmps74
      go_upto_region 1 with fail
      rw [← hW1]
      clear hW1
      go_region_held3 (fun W => W.cell? ⟨w.heap.size, 0, none⟩ = some (.int .i64 tk) ∧ W.cell? ⟨w.heap.size, 1, none⟩ = some (.string ts) ∧ W.cell? ⟨w.heap.size, 2, none⟩ = some (.int .i64 tn))
        ((refine HSS.out _ ?_; repeat (first | exact Hid.out (by assumption) | exact Below.refl _ _ | refine Below.drew ?_)))
        (first
          | (go_at_call 70; refine (CS.out _ ?_).mono ?_; (focus (repeat (first | exact Hid.out (by assumption) | exact Below.refl _ _ | refine Below.drew ?_))); rintro e w2 ⟨rfl, hb2⟩; have HB2 : Hid (Below W1.heap.size W1 w2) := hb2; clear hb2))
      all_goals
        have HB3 : Hid (Below w.heap.size w w2) := HB1.out.trans (HB2.out.mono HB1.out.size)
        go_wp2
        go_ret
        exact ⟨rfl, HS.out.below HB3.out, (GrowA.refl _ _).below HB3.out⟩
    · skip
      go_enter Tryz.func74, Tryz.ntmps74
      go_upto_region 1 with fail
      rw [← hW1]
      clear hW1
      go_region_held3 (fun W => W.cell? ⟨w.heap.size, 0, none⟩ = some (.int .i64 tk) ∧ W.cell? ⟨w.heap.size, 1, none⟩ = some (.string ts) ∧ W.cell? ⟨w.heap.size, 2, none⟩ = some (.int .i64 tn))
        ((refine HSS.out _ ?_; repeat (first | exact Hid.out (by assumption) | exact Below.refl _ _ | refine Below.drew ?_)))
        (first
          | (go_at_call 70; refine (CS.out _ ?_).mono ?_; (focus (repeat (first | exact Hid.out (by assumption) | exact Below.refl _ _ | refine Below.drew ?_))); rintro e w2 ⟨rfl, hb2⟩; have HB2 : Hid (Below W1.heap.size W1 w2) := hb2; clear hb2))
      all_goals
        have HB3 : Hid (Below w.heap.size w w2) := HB1.out.trans (HB2.out.mono HB1.out.size)
        go_wp2
        go_ret
        exact ⟨rfl, HS.out.below HB3.out, (GrowA.refl _ _).below HB3.out⟩
end Go.Proofs.YtcbpjgnbdpfiiaaGreatDoor
set_option linter.unusedVariables false
namespace Go.Proofs.YtcbpjgnbdpfiiaaGreatDoor
set_option maxRecDepth 100000
open Go.RowKit

set_option maxHeartbeats 800000 in
theorem want_is {w : World} {pb b c : Nat} {T : List Tok} {st : Pst} (h : PaS w pb b c T st) (t : Tok) (hT : T.length ≤ 200) (hat : st.at' ≤ 300) :
    Calls Tryz.prog 139 #[.pointer (some ⟨pb, 0, none⟩), .agg #[.int .i64 t.kind, .string t.s, .int .i64 t.n]] w fun e w' => e = .returned (.tuple #[]) ∧ PaS w' pb b c T (wantM T st t) ∧ GrowA pb w w' := by
  have CS : Hid (∀ o, Calls Tryz.prog 74 #[.pointer (some ⟨pb, 0, none⟩), .agg #[.int .i64 t.kind, .string t.s, .int .i64 t.n]] (w.alloc o) fun e w' => e = .returned (.bool (skipM T st t).1) ∧ PaS w' pb b c T (skipM T st t).2 ∧ GrowA pb w w') := fun o => (skip_is (h.allocI o) t hT hat).mono fun e w' ⟨k1, k2, k3⟩ => ⟨k1, k2, ((GrowA.refl _ _).alloc o).trans k3⟩
  unfold wantM
  generalize skipM T st t = r at CS
  obtain ⟨rb, rs⟩ := r
  obtain ⟨tk, ts, tn⟩ := t
  simp only at CS ⊢
  clear h
  cases rb
  · rw [if_neg (by decide)]
    go_enter Tryz.func139, Tryz.ntmps139
    go_wp2_with (first
      | (go_at_call 74; refine (CS.out _).mono ?_; rintro e w1 ⟨rfl, hp1, hg1⟩; have HP1 : Hid (PaS w1 pb b c T rs) := hp1; have HG1 : Hid (GrowA pb w w1) := hg1; clear hp1 hg1)
      | (go_at_call 22; refine (miss_is HP1.out).mono ?_; rintro e w2 ⟨rfl, hp2, hg2⟩))
    first
      | (go_end0; exact ⟨rfl, hp2, HG1.out.trans hg2⟩)
      | (refine bodyPost_ret (v := .tuple #[]) (by simp [results, Tryz.results139, go_sem]) rfl ⟨rfl, hp2, HG1.out.trans hg2⟩)
  · rw [if_pos rfl]
    go_enter Tryz.func139, Tryz.ntmps139
    go_wp2_with (first
      | (go_at_call 74; refine (CS.out _).mono ?_; rintro e w1 ⟨rfl, hp1, hg1⟩; have HP1 : Hid (PaS w1 pb b c T rs) := hp1; have HG1 : Hid (GrowA pb w w1) := hg1; clear hp1 hg1))
    first
      | (go_end0; exact ⟨rfl, HP1.out, HG1.out⟩)
      | (refine bodyPost_ret (v := .tuple #[]) (by simp [results, Tryz.results139, go_sem]) rfl ⟨rfl, HP1.out, HG1.out⟩)
/-- what enter answers: a function that lies with the parser's place in a block of its own -/
def Leave (w : World) (pb q : Nat) : Prop := w.cell? ⟨q, 0, none⟩ = some (.pointer (some ⟨pb, 0, none⟩)) ∧ q < w.heap.size ∧ q ≠ pb
theorem Leave.grow {w w' : World} {pb q : Nat} (h : Leave w pb q) (hg : GrowA pb w w') : Leave w' pb q := ⟨(hg.cell h.2.1 h.2.2).trans h.1, Nat.lt_of_lt_of_le h.2.1 hg.1, h.2.2⟩
theorem failM_opn {st : Pst} {e : Int} : (failM st e).opn = st.opn := by unfold failM; split <;> rfl
theorem missM_opn {T : List Tok} {st : Pst} : (missM T st).opn = st.opn := by unfold missM; split <;> exact failM_opn
theorem PaS.ofO {w : World} {pb b c n : Nat} {T : List Tok} {st : Pst} (h : PaS w pb b c T st) (hn : st.opn + 1 = n) : PaS (w.setCell ⟨pb, 2, none⟩ (.int .i64 n)) pb b c T { st with opn := st.opn + 1 } := by
  rw [hn]; exact h.setO n
set_option maxHeartbeats 1600000 in
theorem penter_is {w : World} {pb b c : Nat} {T : List Tok} {st : Pst} (h : PaS w pb b c T st) (begins : Bool) (ho : st.opn ≤ 100) :
    Calls Tryz.prog 43 #[.pointer (some ⟨pb, 0, none⟩), .bool begins] w fun e w' => ∃ q, e = .returned (.func (.func 69) #[] #[.pointer (some ⟨q, 0, none⟩)]) ∧ Leave w' pb q ∧ PaS w' pb b c T (enterM T st begins) ∧ GrowA pb w w' ∧ w.heap.size ≤ q := by
  have hmf : ∀ (fn : Fn) (first cap : Array Value) (w : World), (Instr.makeFunc fn first cap).run Tryz.prog w = .ok (.func fn first cap) w := fun _ _ _ _ => rfl
  obtain ⟨W1, hW1⟩ : ∃ W, W = w.alloc (.cells #[.pointer (some ⟨pb, 0, none⟩)] 93) := ⟨_, rfl⟩
  have HB1 : Hid (GrowA pb w W1) := by rw [hW1]; exact (GrowA.refl _ _).alloc _
  have HP1 : Hid (PaS W1 pb b c T st) := by rw [hW1]; exact h.allocI _
  have HL1 : Hid (Leave W1 pb w.heap.size) := by rw [hW1]; exact ⟨by simp, by simp, by have := h.pl; omega⟩
  have hq1 := HL1.out.1
  have ho1 := HP1.out.o
  have hf1 := HP1.out.fo
  have hl1 := HL1.out.2.1
  have hwr : IntKind.i64.wrap ((st.opn : Int) + 1) = ((st.opn + 1 : Nat) : Int) := by rw [IntWalk.i64_in _ (by omega)]; simp
  obtain ⟨q1, hq⟩ : ∃ q : Nat, q = st.opn + 1 := ⟨_, rfl⟩
  rw [← hq] at hwr
  unfold enterM
  simp only
  clear h
  by_cases h30 : 30 ≤ st.opn
  · rw [if_pos h30]
    have h30i : (30 : Int) ≤ (st.opn : Int) := by omega
    cases begins
    · rw [if_neg (by decide)]
      have C1 : Hid (Calls Tryz.prog 22 #[.pointer (some ⟨pb, 0, none⟩)] W1 fun e w' => e = .returned (.tuple #[]) ∧ PaS w' pb b c T (missM T st) ∧ GrowA pb W1 w') := miss_is HP1.out
      have HF : Hid (∀ W, PaS W pb b c T (failM (missM T st) 8) → W.cell? ⟨pb, 2, none⟩ = some (.int .i64 st.opn) ∧ W.frozen? ⟨pb, 2, none⟩ = false ∧ PaS (W.setCell ⟨pb, 2, none⟩ (.int .i64 q1)) pb b c T { failM (missM T st) 8 with opn := (failM (missM T st) 8).opn + 1 }) := fun W h => ⟨by have := h.o; rw [failM_opn, missM_opn] at this; exact this, h.fo, h.ofO (by rw [failM_opn, missM_opn, hq])⟩
      go_enter Tryz.func43, Tryz.ntmps43
      go_upto_region 1 with fail
      rw [← hW1]
      clear hW1 hq
      go_wp2_with (first
        | (go_at_call 22; refine C1.out.mono ?_; rintro e w2 ⟨rfl, hp2, hg2⟩; have HP2 : Hid (PaS w2 pb b c T (missM T st)) := hp2; have HG2 : Hid (GrowA pb w w2) := HB1.out.trans hg2; have HL2 : Hid (Leave w2 pb w.heap.size) := HL1.out.grow hg2; have hq2 := HL2.out.1; have hl2 := HL2.out.2.1; clear hp2 hg2)
        | (go_at_call 46; refine (fail_is HP2.out 8).mono ?_; rintro e w3 ⟨rfl, hp3, hg3⟩; have HG3 : Hid (GrowA pb w w3) := HG2.out.trans hg3; have HL3 : Hid (Leave w3 pb w.heap.size) := HL2.out.grow hg3; have hq3 := HL3.out.1; have hl3 := HL3.out.2.1; obtain ⟨ho3, hf3, hx3⟩ := HF.out _ hp3; have HX3 : Hid (PaS (w3.setCell ⟨pb, 2, none⟩ (.int .i64 q1)) pb b c T { failM (missM T st) 8 with opn := (failM (missM T st) 8).opn + 1 }) := hx3; clear hp3 hg3 hx3))
      go_ret
      exact ⟨w.heap.size, rfl, HL3.out.grow ((GrowA.refl _ _).set 2 _), HX3.out, HG3.out.set 2 _, Nat.le_refl _⟩
    · rw [if_pos rfl]
      have HF : Hid (∀ W, PaS W pb b c T (failM st 8) → W.cell? ⟨pb, 2, none⟩ = some (.int .i64 st.opn) ∧ W.frozen? ⟨pb, 2, none⟩ = false ∧ PaS (W.setCell ⟨pb, 2, none⟩ (.int .i64 q1)) pb b c T { failM st 8 with opn := (failM st 8).opn + 1 }) := fun W h => ⟨by have := h.o; rw [failM_opn] at this; exact this, h.fo, h.ofO (by rw [failM_opn, hq])⟩
      go_enter Tryz.func43, Tryz.ntmps43
      go_upto_region 1 with fail
      rw [← hW1]
      clear hW1 hq
      go_wp2_with (first
        | (go_at_call 46; refine (fail_is HP1.out 8).mono ?_; rintro e w3 ⟨rfl, hp3, hg3⟩; have HG3 : Hid (GrowA pb w w3) := HB1.out.trans hg3; have HL3 : Hid (Leave w3 pb w.heap.size) := HL1.out.grow hg3; have hq3 := HL3.out.1; have hl3 := HL3.out.2.1; obtain ⟨ho3, hf3, hx3⟩ := HF.out _ hp3; have HX3 : Hid (PaS (w3.setCell ⟨pb, 2, none⟩ (.int .i64 q1)) pb b c T { failM st 8 with opn := (failM st 8).opn + 1 }) := hx3; clear hp3 hg3 hx3))
      go_ret
      exact ⟨w.heap.size, rfl, HL3.out.grow ((GrowA.refl _ _).set 2 _), HX3.out, HG3.out.set 2 _, Nat.le_refl _⟩
  · rw [if_neg h30]
    have h30i : ¬ (30 : Int) ≤ (st.opn : Int) := by omega
    have HX : Hid (PaS (W1.setCell ⟨pb, 2, none⟩ (.int .i64 q1)) pb b c T { st with opn := st.opn + 1 }) := HP1.out.ofO hq.symm
    go_enter Tryz.func43, Tryz.ntmps43
    go_upto_region 1 with fail
    rw [← hW1]
    clear hW1 hq
    go_wp2
    go_ret
    exact ⟨w.heap.size, rfl, HL1.out.grow ((GrowA.refl _ _).set 2 _), HX.out, HB1.out.set 2 _, Nat.le_refl _⟩
end Go.Proofs.YtcbpjgnbdpfiiaaGreatDoor
set_option linter.unusedVariables false
namespace Go.Proofs.YtcbpjgnbdpfiiaaGreatDoor
set_option maxRecDepth 100000
open Go.RowKit

/-- a phrase as a value -/
def PhV (v : Value) : Prop := ∃ (k0 k1 k2 k5 k6 k7 : Int) (s3 s4 s8 : ByteArray) (a9 a10 : Option Addr) (l9 c9 l10 c10 : Nat), v = .agg #[.int .i64 k0, .int .i64 k1, .int .i64 k2, .string s3, .string s4, .int .i64 k5, .int .i64 k6, .int .i64 k7, .string s8, .slice a9 l9 c9, .slice a10 l10 c10]
theorem PhV.mk {k0 k1 k2 k5 k6 k7 : Int} {s3 s4 s8 : ByteArray} {a9 a10 : Option Addr} {l9 c9 l10 c10 : Nat} : PhV (.agg #[.int .i64 k0, .int .i64 k1, .int .i64 k2, .string s3, .string s4, .int .i64 k5, .int .i64 k6, .int .i64 k7, .string s8, .slice a9 l9 c9, .slice a10 l10 c10]) := ⟨k0, k1, k2, k5, k6, k7, s3, s4, s8, a9, a10, l9, c9, l10, c10, rfl⟩
/-- a phrase in a block of its own -/
def PhB (w : World) (r : Nat) (v : Array Value) : Prop := w.heap[r]? = some (.cells v 38)
theorem PhB.lt {w : World} {r : Nat} {v : Array Value} (h : PhB w r v) : r < w.heap.size := (Array.getElem?_eq_some_iff.1 h).1
theorem PhB.cells {w : World} {r : Nat} {k0 k1 k2 k5 k6 k7 : Int} {s3 s4 s8 : ByteArray} {a9 a10 : Option Addr} {l9 c9 l10 c10 : Nat} (h : PhB w r #[.int .i64 k0, .int .i64 k1, .int .i64 k2, .string s3, .string s4, .int .i64 k5, .int .i64 k6, .int .i64 k7, .string s8, .slice a9 l9 c9, .slice a10 l10 c10]) : (w.cell? ⟨r, 0, none⟩ = some (.int .i64 k0) ∧ w.cell? ⟨r, 1, none⟩ = some (.int .i64 k1) ∧ w.cell? ⟨r, 2, none⟩ = some (.int .i64 k2) ∧ w.cell? ⟨r, 3, none⟩ = some (.string s3) ∧ w.cell? ⟨r, 4, none⟩ = some (.string s4) ∧ w.cell? ⟨r, 5, none⟩ = some (.int .i64 k5) ∧ w.cell? ⟨r, 6, none⟩ = some (.int .i64 k6) ∧ w.cell? ⟨r, 7, none⟩ = some (.int .i64 k7) ∧ w.cell? ⟨r, 8, none⟩ = some (.string s8) ∧ w.cell? ⟨r, 9, none⟩ = some (.slice a9 l9 c9) ∧ w.cell? ⟨r, 10, none⟩ = some (.slice a10 l10 c10)) ∧ w.frozen? ⟨r, 0, none⟩ = false ∧ w.frozen? ⟨r, 1, none⟩ = false ∧ w.frozen? ⟨r, 2, none⟩ = false ∧ w.frozen? ⟨r, 3, none⟩ = false ∧ w.frozen? ⟨r, 4, none⟩ = false ∧ w.frozen? ⟨r, 5, none⟩ = false ∧ w.frozen? ⟨r, 6, none⟩ = false ∧ w.frozen? ⟨r, 7, none⟩ = false ∧ w.frozen? ⟨r, 8, none⟩ = false ∧ w.frozen? ⟨r, 9, none⟩ = false ∧ w.frozen? ⟨r, 10, none⟩ = false := by
  unfold PhB at h
  refine ⟨⟨?_, ?_, ?_, ?_, ?_, ?_, ?_, ?_, ?_, ?_, ?_⟩, ⟨?_, ?_, ?_, ?_, ?_, ?_, ?_, ?_, ?_, ?_, ?_⟩⟩ <;> simp [World.cell?, World.frozen?, h]
theorem PhB.new (w : World) (v : Array Value) : PhB (w.alloc (.cells v 38)) w.heap.size v := heap_alloc_new _ _
theorem PhB.grow {w w' : World} {pb r : Nat} {v : Array Value} (h : PhB w r v) (hg : GrowA pb w w') (hr : r ≠ pb) : PhB w' r v := (hg.2.2.2.2 r h.lt hr).trans h
theorem PhB.below {w w' : World} {r : Nat} {v : Array Value} (h : PhB w r v) (hb : Below w.heap.size w w') : PhB w' r v := (hb.block r h.lt).trans h
theorem PhB.allocI {w : World} {r : Nat} {v : Array Value} (h : PhB w r v) (o : Obj) : PhB (w.alloc o) r v := h.below ((Below.refl _ _).alloc (Nat.le_refl _) o)
theorem Leave.allocI {w : World} {pb q : Nat} (h : Leave w pb q) (o : Obj) : Leave (w.alloc o) pb q := h.grow ((GrowA.refl _ _).alloc o)
theorem Leave.below {w w' : World} {pb q : Nat} (h : Leave w pb q) (hb : Below w.heap.size w w') : Leave w' pb q := h.grow ((GrowA.refl _ _).below hb)
theorem GrowA.setR {pb : Nat} {w wr : World} (h : GrowA pb w wr) {r : Nat} (hr : w.heap.size ≤ r) (t : Nat) (u : Value) : GrowA pb w (wr.setCell ⟨r, t, none⟩ u) := ⟨by simpa using h.1, h.2.1, h.2.2.1, h.2.2.2.1, fun b h1 h2 => (Below.heap_setCell _ _ _ _ (by simp; omega)).trans (h.2.2.2.2 b h1 h2)⟩
theorem Leave.setR {w : World} {pb q r : Nat} (h : Leave w pb q) (hr : r ≠ q) (t : Nat) (u : Value) : Leave (w.setCell ⟨r, t, none⟩ u) pb q := ⟨(World.cell?_of_block (a := ⟨q, 0, none⟩) (Below.heap_setCell _ _ _ _ (by simpa using Ne.symm hr))).trans h.1, by simpa using h.2.1, h.2.2⟩
theorem PaS.setR {w : World} {pb b c : Nat} {T : List Tok} {st : Pst} (h : PaS w pb b c T st) {r : Nat} (hp : r ≠ pb) (hb : r ≠ b) (t : Nat) (u : Value) : PaS (w.setCell ⟨r, t, none⟩ u) pb b c T st := by
  have k : ∀ x, x ≠ r → (w.setCell ⟨r, t, none⟩ u).heap[x]? = w.heap[x]? := fun x hx => Below.heap_setCell _ _ _ _ (by simpa using hx)
  have kp := k pb (Ne.symm hp)
  have kb := k b (Ne.symm hb)
  exact ⟨(World.cell?_of_block (a := ⟨pb, 0, none⟩) kp).trans h.l, (World.cell?_of_block (a := ⟨pb, 1, none⟩) kp).trans h.a, (World.cell?_of_block (a := ⟨pb, 2, none⟩) kp).trans h.o, (World.cell?_of_block (a := ⟨pb, 3, none⟩) kp).trans h.e, (World.frozen?_of_block (a := ⟨pb, 1, none⟩) kp).trans h.fa, (World.frozen?_of_block (a := ⟨pb, 2, none⟩) kp).trans h.fo, (World.frozen?_of_block (a := ⟨pb, 3, none⟩) kp).trans h.fe, by simpa using h.pl, by simpa using h.bl, h.ne, fun i hi => by
    obtain ⟨h1, h2, h3⟩ := h.ts i hi
    exact ⟨(World.cell?_of_block (a := ⟨b, _, none⟩) kb).trans h1, (World.cell?_of_block (a := ⟨b, _, none⟩) kb).trans h2, (World.cell?_of_block (a := ⟨b, _, none⟩) kb).trans h3⟩⟩
theorem see_lit {w : World} {pb b c : Nat} {T : List Tok} {st : Pst} (h : PaS w pb b c T st) (a : Nat) (ha : a ≤ 2) (hT : T.length ≤ 200) (hat : st.at' ≤ 300) {k : Int} {s : ByteArray} {n : Int} (hs : seeM T st a = ⟨k, s, n⟩) :
    Calls Tryz.prog 70 #[.pointer (some ⟨pb, 0, none⟩), .int .i64 a] w fun e w' => e = .returned (.agg #[.int .i64 k, .string s, .int .i64 n]) ∧ Below w.heap.size w w' := by
  have := see_is h a ha hT (by omega)
  rw [hs] at this
  exact this
theorem skip_no {w : World} {pb b c : Nat} {T : List Tok} {st : Pst} (h : PaS w pb b c T st) (hT : T.length ≤ 200) (hat : st.at' ≤ 300) (k : Int) (s : ByteArray) (n : Int) (hs : eqT (seeM T st 0) ⟨k, s, n⟩ = false) :
    Calls Tryz.prog 74 #[.pointer (some ⟨pb, 0, none⟩), .agg #[.int .i64 k, .string s, .int .i64 n]] w fun e w' => e = .returned (.bool false) ∧ PaS w' pb b c T st ∧ GrowA pb w w' := by
  have := skip_is h ⟨k, s, n⟩ hT hat
  unfold skipM at this
  rw [if_neg (by rw [hs]; decide)] at this
  exact this
theorem skip_yes {w : World} {pb b c : Nat} {T : List Tok} {st : Pst} (h : PaS w pb b c T st) (hT : T.length ≤ 200) (hat : st.at' ≤ 300) (k : Int) (s : ByteArray) (n : Int) (hs : eqT (seeM T st 0) ⟨k, s, n⟩ = true) :
    Calls Tryz.prog 74 #[.pointer (some ⟨pb, 0, none⟩), .agg #[.int .i64 k, .string s, .int .i64 n]] w fun e w' => e = .returned (.bool true) ∧ PaS w' pb b c T { st with at' := st.at' + 1 } ∧ GrowA pb w w' := by
  have := skip_is h ⟨k, s, n⟩ hT hat
  unfold skipM at this
  rw [if_pos hs] at this
  exact this
set_option maxHeartbeats 800000 in
theorem pleave_is {w : World} {pb q b c : Nat} {T : List Tok} {st : Pst} (h : PaS w pb b c T st) (hl : Leave w pb q) (ho : 1 ≤ st.opn ∧ st.opn ≤ 200) (u : FrameMode) :
    CallsD Tryz.prog 69 #[.pointer (some ⟨q, 0, none⟩)] u w fun e u' w' => u' = u ∧ (e = .returned (.tuple #[]) ∧ PaS w' pb b c T { st with opn := st.opn - 1 } ∧ GrowA pb w w') := by
  have x2 := h.o
  have f2 := h.fo
  have hq := hl.1
  have hwr : IntKind.i64.wrap ((st.opn : Int) - 1) = ((st.opn - 1 : Nat) : Int) := by rw [IntWalk.i64_in _ (by omega)]; omega
  have HF : Hid (PaS (w.setCell ⟨pb, 2, none⟩ (.int .i64 ((st.opn - 1 : Nat) : Int))) pb b c T { st with opn := st.opn - 1 }) := h.setO _
  generalize ((st.opn - 1 : Nat) : Int) = q1 at hwr HF
  clear h hl
  go_enter_d Tryz.func69, Tryz.ntmps69
  go_wp2
  go_end0
  exact ⟨rfl, HF.out, (GrowA.refl _ _).set 2 _⟩
end Go.Proofs.YtcbpjgnbdpfiiaaGreatDoor
set_option linter.unusedVariables false
namespace Go.Proofs.YtcbpjgnbdpfiiaaGreatDoor
set_option maxRecDepth 100000
open Go.RowKit

/-- a phrase, or none (there must be something that stands where there is no part) -/
inductive Ph where
  | no
  | mk (k : Int) (it : It) (nm : ByteArray) (n ax tk : Int) (tn : ByteArray) (na : Nat) (A : Nat → Ph) (nc : Nat) (CK : Nat → Int) (CN CA : Nat → ByteArray) (CD : Nat → Bool) (CE : Nat → Ph)
def phL (k : Int) (it : It) (nm : ByteArray) (n ax tk : Int) (tn : ByteArray) (av cv : Value) : List Value := [.int .i64 k, .int .i64 it.kind, .int .i64 it.n, .string it.s, .string nm, .int .i64 n, .int .i64 ax, .int .i64 tk, .string tn, av, cv]
/-- values that lie side by side -/
def cAt (w : World) (g o : Nat) (vs : List Value) : Prop := ∀ (j : Nat) (h : j < vs.length), w.cell? ⟨g, o + j, none⟩ = some vs[j]
theorem cAt.keep {w w' : World} {g o : Nat} {vs : List Value} (h : cAt w g o vs) (hk : w'.heap[g]? = w.heap[g]?) : cAt w' g o vs := fun j hj => (World.cell?_of_block (a := ⟨g, _, none⟩) hk).trans (h j hj)
/-- a phrase's eleven values, and all that hangs on them in blocks of a set -/
def Ph.V (w : World) (S : Nat → Prop) : Ph → List Value → Prop
  | .no, _ => False
  | .mk k it nm n ax tk tn na A nc CK CN CA CD CE, v => ∃ a9 c9 a10 c10, v = phL k it nm n ax tk tn (.slice a9 na c9) (.slice a10 nc c10) ∧ na ≤ c9 ∧ nc ≤ c10 ∧ c9 ≤ maxLen ∧ c10 ≤ maxLen
      ∧ (0 < na → ∃ g o, a9 = some ⟨g, o, none⟩ ∧ S g ∧ ∀ i, i < na → ∃ u, cAt w g (o + i * 11) u ∧ (A i).V w S u)
      ∧ (0 < nc → ∃ g o, a10 = some ⟨g, o, none⟩ ∧ S g ∧ ∀ i, i < nc → ∃ u, cAt w g (o + i * 15) ([.int .i64 (CK i), .string (CN i), .string (CA i), .bool (CD i)] ++ u) ∧ (CE i).V w S u)
/-- it stays where the blocks of the set stay -/
theorem Ph.V.keep {w w' : World} {S S' : Nat → Prop} (hS : ∀ b, S b → S' b) (hk : ∀ b, S b → w'.heap[b]? = w.heap[b]?) : ∀ {p : Ph} {v : List Value}, p.V w S v → p.V w' S' v := by
  intro p
  induction p with
  | no => intro v h; exact h
  | mk k it nm n ax tk tn na A nc CK CN CA CD CE ihA ihC =>
    intro v h
    obtain ⟨a9, c9, a10, c10, h1, h2, h3, h4, h5, h6, h7⟩ := h
    refine ⟨a9, c9, a10, c10, h1, h2, h3, h4, h5, fun hn => ?_, fun hn => ?_⟩
    · obtain ⟨g, o, q1, q2, q3⟩ := h6 hn
      refine ⟨g, o, q1, hS _ q2, fun i hi => ?_⟩
      obtain ⟨u, r1, r2⟩ := q3 i hi
      exact ⟨u, r1.keep (hk g q2), ihA i r2⟩
    · obtain ⟨g, o, q1, q2, q3⟩ := h7 hn
      refine ⟨g, o, q1, hS _ q2, fun i hi => ?_⟩
      obtain ⟨u, r1, r2⟩ := q3 i hi
      exact ⟨u, r1.keep (hk g q2), ihC i r2⟩
/-- a phrase all of whose blocks are some of those from lo on -/
def Tre (w : World) (lo : Nat) (p : Ph) (v : List Value) : Prop := p.V w (fun b => lo ≤ b ∧ b < w.heap.size) v
theorem Tre.grow {w w' : World} {pb lo : Nat} {p : Ph} {v : List Value} (h : Tre w lo p v) (hg : GrowA pb w w') (hp : pb < lo) : Tre w' lo p v :=
  Ph.V.keep (fun b hb => ⟨hb.1, Nat.lt_of_lt_of_le hb.2 hg.1⟩) (fun b hb => hg.2.2.2.2 b hb.2 (by omega)) h
theorem Tre.below {w w' : World} {lo : Nat} {p : Ph} {v : List Value} (h : Tre w lo p v) (hb : Below w.heap.size w w') : Tre w' lo p v :=
  Ph.V.keep (fun b h1 => ⟨h1.1, Nat.lt_of_lt_of_le h1.2 hb.size⟩) (fun b h1 => hb.block b h1.2) h
theorem Tre.allocI {w : World} {lo : Nat} {p : Ph} {v : List Value} (h : Tre w lo p v) (o : Obj) : Tre (w.alloc o) lo p v := h.below ((Below.refl _ _).alloc (Nat.le_refl _) o)
theorem Tre.setR {w : World} {lo r : Nat} {p : Ph} {v : List Value} (h : Tre w lo p v) (hr : r < lo) (t : Nat) (u : Value) : Tre (w.setCell ⟨r, t, none⟩ u) lo p v :=
  Ph.V.keep (fun b h1 => ⟨h1.1, by simpa using h1.2⟩) (fun b h1 => Below.heap_setCell _ _ _ _ (by simp; omega)) h
theorem Tre.mono {w : World} {lo lo' : Nat} {p : Ph} {v : List Value} (h : Tre w lo p v) (hl : lo' ≤ lo) : Tre w lo' p v := Ph.V.keep (fun b h1 => ⟨Nat.le_trans hl h1.1, h1.2⟩) (fun _ _ => rfl) h
/-- how such a value is written -/
theorem Ph.V.form {w : World} {S : Nat → Prop} {p : Ph} {v : List Value} (h : p.V w S v) : ∃ (k0 k1 k2 k5 k6 k7 : Int) (s3 s4 s8 : ByteArray) (a9 a10 : Option Addr) (l9 c9 l10 c10 : Nat), v = [.int .i64 k0, .int .i64 k1, .int .i64 k2, .string s3, .string s4, .int .i64 k5, .int .i64 k6, .int .i64 k7, .string s8, .slice a9 l9 c9, .slice a10 l10 c10] := by
  cases p with
  | no => exact h.elim
  | mk k it nm n ax tk tn na A nc CK CN CA CD CE =>
    obtain ⟨a9, c9, a10, c10, h1, _⟩ := h
    exact ⟨k, it.kind, it.n, n, ax, tk, it.s, nm, tn, a9, a10, na, c9, nc, c10, h1⟩
theorem Tre.form {w : World} {lo : Nat} {p : Ph} {v : List Value} (h : Tre w lo p v) : ∃ (k0 k1 k2 k5 k6 k7 : Int) (s3 s4 s8 : ByteArray) (a9 a10 : Option Addr) (l9 c9 l10 c10 : Nat), v = [.int .i64 k0, .int .i64 k1, .int .i64 k2, .string s3, .string s4, .int .i64 k5, .int .i64 k6, .int .i64 k7, .string s8, .slice a9 l9 c9, .slice a10 l10 c10] := Ph.V.form h
/-- a phrase of no parts -/
def ph0 (k : Int) (it : It) (nm : ByteArray) (n ax tk : Int) (tn : ByteArray) : Ph := .mk k it nm n ax tk tn 0 (fun _ => .no) 0 (fun _ => 0) (fun _ => ⟨#[]⟩) (fun _ => ⟨#[]⟩) (fun _ => false) (fun _ => .no)
theorem tre_ph0 {w : World} {lo : Nat} {k : Int} {it : It} {nm : ByteArray} {n ax tk : Int} {tn : ByteArray} : Tre w lo (ph0 k it nm n ax tk tn) (phL k it nm n ax tk tn (.slice none 0 0) (.slice none 0 0)) :=
  ⟨none, 0, none, 0, rfl, Nat.le_refl _, Nat.le_refl _, by decide, by decide, fun h => absurd h (by decide), fun h => absurd h (by decide)⟩
/-- a phrase of some parts, that lie side by side -/
def phN (k : Int) (it : It) (nm : ByteArray) (n ax tk : Int) (tn : ByteArray) (na : Nat) (A : Nat → Ph) : Ph := .mk k it nm n ax tk tn na A 0 (fun _ => 0) (fun _ => ⟨#[]⟩) (fun _ => ⟨#[]⟩) (fun _ => false) (fun _ => .no)
/-- a list of phrases as a value -/
def Phs (w : World) (lo : Nat) (na : Nat) (A : Nat → Ph) (v : Value) : Prop := ∃ a c, v = .slice a na c ∧ na ≤ c ∧ c ≤ maxLen ∧ (0 < na → ∃ g, a = some ⟨g, 0, none⟩ ∧ (lo ≤ g ∧ g < w.heap.size) ∧ ∀ i, i < na → ∃ u, cAt w g (i * 11) u ∧ Tre w lo (A i) u)
theorem Phs.form {w : World} {lo na : Nat} {A : Nat → Ph} {v : Value} (h : Phs w lo na A v) : ∃ a c, v = .slice a na c := by obtain ⟨a, c, h1, _⟩ := h; exact ⟨a, c, h1⟩
theorem Phs.grow {w w' : World} {pb lo na : Nat} {A : Nat → Ph} {v : Value} (h : Phs w lo na A v) (hg : GrowA pb w w') (hp : pb < lo) : Phs w' lo na A v := by
  obtain ⟨a, c, h1, h2, h2', h3⟩ := h
  refine ⟨a, c, h1, h2, h2', fun hn => ?_⟩
  obtain ⟨g, q1, q2, q3⟩ := h3 hn
  refine ⟨g, q1, ⟨q2.1, Nat.lt_of_lt_of_le q2.2 hg.1⟩, fun i hi => ?_⟩
  obtain ⟨u, r1, r2⟩ := q3 i hi
  exact ⟨u, r1.keep (hg.2.2.2.2 g q2.2 (by omega)), r2.grow hg hp⟩
theorem Phs.mono {w : World} {lo lo' na : Nat} {A : Nat → Ph} {v : Value} (h : Phs w lo na A v) (hl : lo' ≤ lo) : Phs w lo' na A v := by
  obtain ⟨a, c, h1, h2, h2', h3⟩ := h
  refine ⟨a, c, h1, h2, h2', fun hn => ?_⟩
  obtain ⟨g, q1, q2, q3⟩ := h3 hn
  refine ⟨g, q1, ⟨Nat.le_trans hl q2.1, q2.2⟩, fun i hi => ?_⟩
  obtain ⟨u, r1, r2⟩ := q3 i hi
  exact ⟨u, r1, r2.mono hl⟩
theorem Phs.setR {w : World} {lo na r : Nat} {A : Nat → Ph} {v : Value} (h : Phs w lo na A v) (hr : r < lo) (t : Nat) (x : Value) : Phs (w.setCell ⟨r, t, none⟩ x) lo na A v := by
  obtain ⟨a, c, h1, h2, h2', h3⟩ := h
  refine ⟨a, c, h1, h2, h2', fun hn => ?_⟩
  obtain ⟨g, q1, q2, q3⟩ := h3 hn
  refine ⟨g, q1, ⟨q2.1, by simpa using q2.2⟩, fun i hi => ?_⟩
  obtain ⟨u, r1, r2⟩ := q3 i hi
  exact ⟨u, r1.keep (Below.heap_setCell _ _ _ _ (by simp; omega)), r2.setR hr t x⟩
theorem Phs.allocI {w : World} {lo na : Nat} {A : Nat → Ph} {v : Value} (h : Phs w lo na A v) (o : Obj) : Phs (w.alloc o) lo na A v := by
  obtain ⟨a, c, h1, h2, h2', h3⟩ := h
  refine ⟨a, c, h1, h2, h2', fun hn => ?_⟩
  obtain ⟨g, q1, q2, q3⟩ := h3 hn
  refine ⟨g, q1, ⟨q2.1, by simp; omega⟩, fun i hi => ?_⟩
  obtain ⟨u, r1, r2⟩ := q3 i hi
  exact ⟨u, r1.keep (Below.heap_alloc _ _ _ q2.2), r2.allocI o⟩
theorem Phs.tre {w : World} {lo na : Nat} {A : Nat → Ph} {v : Value} (h : Phs w lo na A v) {k : Int} {it : It} {nm : ByteArray} {n ax tk : Int} {tn : ByteArray} : Tre w lo (phN k it nm n ax tk tn na A) (phL k it nm n ax tk tn v (.slice none 0 0)) := by
  obtain ⟨a, c, h1, h2, h2', h3⟩ := h
  subst h1
  refine ⟨a, c, none, 0, rfl, h2, Nat.le_refl _, h2', by decide, fun hn => ?_, fun h => absurd h (by decide)⟩
  obtain ⟨g, q1, q2, q3⟩ := h3 hn
  refine ⟨g, 0, q1, q2, fun i hi => ?_⟩
  obtain ⟨u, r1, r2⟩ := q3 i hi
  rw [Nat.zero_add]
  exact ⟨u, r1, r2⟩
/-- a list of one phrase that was just laid -/
theorem phs_one {w : World} {lo g : Nat} {p : Ph} {u : List Value} {T : TypeId} (h : w.heap[g]? = some (.cells u.toArray T)) (hg : lo ≤ g) (hp : Tre w lo p u) (hu : u.length = 11) : Phs w lo 1 (fun _ => p) (.slice (some ⟨g, 0, none⟩) 1 1) := by
  refine ⟨_, _, rfl, Nat.le_refl _, by decide, fun _ => ⟨g, rfl, ⟨hg, (Array.getElem?_eq_some_iff.1 h).1⟩, fun i hi => ⟨u, fun j hj => ?_, hp⟩⟩⟩
  have hi0 : i = 0 := by omega
  subst hi0
  simp only [Nat.zero_mul, Nat.zero_add]
  simp [World.cell?, h, hj]
end Go.Proofs.YtcbpjgnbdpfiiaaGreatDoor
namespace Go.Proofs.YtcbpjgnbdpfiiaaGreatDoor
open Go.RowKit

set_option maxHeartbeats 400000 in
theorem isLetter_any (c : Int) (w : World) :
    Calls Tryz.prog 29 #[.int .u8 c] w fun e w' => e = .returned (.bool (lett c)) ∧ w' = w := by
  go_enter Tryz.func29, Tryz.ntmps29
  go_wp2
  all_goals
    go_ret
    refine ⟨ret_bool ?_, rfl⟩
    rw [Bool.eq_iff_iff]
    simp_all [lett]
    try omega

set_option maxHeartbeats 400000 in
theorem isDigit_any (c : Int) (w : World) :
    Calls Tryz.prog 31 #[.int .u8 c] w fun e w' => e = .returned (.bool (dgt c)) ∧ w' = w := by
  go_enter Tryz.func31, Tryz.ntmps31
  go_wp2
  all_goals
    go_ret
    refine ⟨ret_bool ?_, rfl⟩
    rw [Bool.eq_iff_iff]
    simp_all [dgt]
    try omega

set_option maxHeartbeats 400000 in
theorem isWordByte_any (c : Int) (f : Bool) (w : World) :
    Calls Tryz.prog 112 #[.int .u8 c, .bool f] w fun e w' => e = .returned (.bool (wb c f)) ∧ w' = w := by
  have hw : wb c f = (lett c || (!f && (dgt c || decide (c = 45)))) := rfl
  have HW : Hid (wb c f = (lett c || (!f && (dgt c || decide (c = 45))))) := hw
  clear hw
  cases f <;> cases hl : lett c <;> cases hd : dgt c
  all_goals
    go_enter Tryz.func112, Tryz.ntmps112
    go_wp2_with (first
      | (go_at_call 29; refine (isLetter_any _ _).mono ?_; rintro e w' ⟨rfl, rfl⟩)
      | (go_at_call 31; refine (isDigit_any _ _).mono ?_; rintro e w' ⟨rfl, rfl⟩))
    all_goals
      go_ret
      refine ⟨ret_bool ?_, rfl⟩
      rw [HW.out]
      simp_all
      try rfl

set_option maxHeartbeats 800000 in
theorem wordBytes_any (s : ByteArray) (w : World) (hs : s.size ≤ maxLen) :
    Calls Tryz.prog 61 #[.string s] w fun e w' => e = .returned (.int .i64 (wl s.data.toList true)) ∧ w' = w := by
  unfold maxLen at hs
  have hle : wl s.data.toList true ≤ s.size := wl_le _ _
  go_enter Tryz.func61, Tryz.ntmps61
  go_wp2
  go_loop [3] (fun i => ∃ k : Nat, k ≤ wl s.data.toList true ∧ i = .int .i64 k) (fun i => s.size - (intOf i).toNat)
  case atStart => exact ⟨0, Nat.zero_le _, rfl⟩
  case round =>
    obtain ⟨k, hk, rfl⟩ := hrel
    by_cases hlt : k < wl s.data.toList true
    · have hks : k < s.size := by omega
      have hb0 : wb (byteAt s k) (decide (k = 0)) = true := by have := wl_lt s.data.toList true k hlt; simpa [byteAt_bAt] using this
      have hb : wb (s[k].toNat : Int) ((k : Int) == 0) = true := by
        rw [byteAt_eq s k hks]
        have e : ((k : Int) == 0) = decide (k = 0) := by rw [Bool.eq_iff_iff]; simp
        rw [e]; exact hb0
      clear hb0
      go_wp2_with (go_at_call 112; refine (isWordByte_any _ _ _).mono ?_; rintro e w' ⟨rfl, rfl⟩)
      go_round
      case rel => exact ⟨k + 1, by omega, by go_num⟩
      case measure => simp [intOf]; omega
    · have e : k = wl s.data.toList true := by omega
      have E : Hid (k = wl s.data.toList true) := e
      by_cases hks : k < s.size
      · have hb0 : wb (byteAt s k) (decide (k = 0)) = false := by
          have := wl_eq s.data.toList true (by rw [← e]; exact hks)
          rw [← e] at this; simpa [byteAt_bAt] using this
        have hb : wb (s[k].toNat : Int) ((k : Int) == 0) = false := by
          rw [byteAt_eq s k hks]
          have e : ((k : Int) == 0) = decide (k = 0) := by rw [Bool.eq_iff_iff]; simp
          rw [e]; exact hb0
        clear hb0 hlt hk e hle
        go_wp2_with (go_at_call 112; refine (isWordByte_any _ _ _).mono ?_; rintro e w' ⟨rfl, rfl⟩)
        go_ret
        exact ⟨ret_int (by rw [E.out]), rfl⟩
      · clear hlt hk e hle
        go_wp2
        go_ret
        exact ⟨ret_int (by rw [E.out]), rfl⟩

set_option maxHeartbeats 400000 in
theorem isName_any2 (s : ByteArray) (w : World) (hs : s.size ≤ maxLen) :
    Calls Tryz.prog 62 #[.string s] w fun e w' => e = .returned (.bool (nmB s)) ∧ w' = w := by
  have C : Hid (∀ W, Calls Tryz.prog 61 #[.string s] W fun e w' => e = .returned (.int .i64 (wl s.data.toList true)) ∧ w' = W) := fun W => wordBytes_any s W hs
  unfold maxLen at hs
  have HN : Hid (nmB s = (decide (1 ≤ s.size ∧ s.size ≤ 20) && decide (wl s.data.toList true = s.size))) := rfl
  generalize wl s.data.toList true = L at *
  by_cases h1 : 1 ≤ s.size
  all_goals by_cases h2 : s.size ≤ 20
  all_goals by_cases h3 : L = s.size
  all_goals
    go_enter Tryz.func62, Tryz.ntmps62
    go_wp2_with (go_at_call 61; refine (C.out _).mono ?_; rintro e w' ⟨rfl, rfl⟩)
    all_goals
      go_ret
      refine ⟨ret_bool ?_, rfl⟩
      rw [HN.out]
      rw [Bool.eq_iff_iff]
      simp
      try omega
end Go.Proofs.YtcbpjgnbdpfiiaaGreatDoor
set_option linter.unusedVariables false
namespace Go.Proofs.YtcbpjgnbdpfiiaaGreatDoor
set_option maxRecDepth 100000
open Go.RowKit

def mkS (k : Nat) : ByteArray := ⟨(mkAt k).toArray⟩
/-- the cells of the table -/
def mkCells : Array Value := #[.string ⟨#[58, 58]⟩, .string ⟨#[47, 47]⟩, .string ⟨#[46, 46]⟩, .string ⟨#[58, 61]⟩, .string ⟨#[33, 61]⟩, .string ⟨#[60, 61]⟩, .string ⟨#[62, 61]⟩, .string ⟨#[60, 60]⟩, .string ⟨#[62, 62]⟩, .string ⟨#[47]⟩, .string ⟨#[40]⟩, .string ⟨#[41]⟩, .string ⟨#[91]⟩, .string ⟨#[93]⟩, .string ⟨#[123]⟩, .string ⟨#[125]⟩, .string ⟨#[44]⟩, .string ⟨#[46]⟩, .string ⟨#[64]⟩, .string ⟨#[42]⟩, .string ⟨#[61]⟩, .string ⟨#[60]⟩, .string ⟨#[62]⟩, .string ⟨#[43]⟩, .string ⟨#[45]⟩, .string ⟨#[124]⟩]
def MarkTab (w : World) : Prop := ∃ t fr, w.heap[0]? = some (.cells mkCells t fr)
theorem MarkTab.below {w w' : World} {B : Nat} (h : MarkTab w) (hb : Below B w w') (hB : 0 < B) : MarkTab w' := by
  obtain ⟨t, fr, h⟩ := h
  exact ⟨t, fr, (hb.block 0 hB).trans h⟩
theorem MarkTab.heap {w w' : World} (h : MarkTab w) (e : w'.heap = w.heap) : MarkTab w' := by
  obtain ⟨t, fr, h⟩ := h
  exact ⟨t, fr, by rw [e]; exact h⟩
theorem mk_index : ∀ (k : Nat), k < 26 → ∀ w, (Instr.index 117 (.agg mkCells) (.int .i64 (k : Int))).run Tryz.prog w = .ok (.string (mkS k)) w := by
  intro k hk
  have : k = 0 ∨ k = 1 ∨ k = 2 ∨ k = 3 ∨ k = 4 ∨ k = 5 ∨ k = 6 ∨ k = 7 ∨ k = 8 ∨ k = 9 ∨ k = 10 ∨ k = 11 ∨ k = 12 ∨ k = 13 ∨ k = 14 ∨ k = 15 ∨ k = 16 ∨ k = 17 ∨ k = 18 ∨ k = 19 ∨ k = 20 ∨ k = 21 ∨ k = 22 ∨ k = 23 ∨ k = 24 ∨ k = 25 := by omega
  rcases this with rfl | rfl | rfl | rfl | rfl | rfl | rfl | rfl | rfl | rfl | rfl | rfl | rfl | rfl | rfl | rfl | rfl | rfl | rfl | rfl | rfl | rfl | rfl | rfl | rfl | rfl <;> exact fun _ => by kernel_rfl
theorem mkS_list (k : Nat) : (mkS k).data.toList = mkAt k := by simp [mkS]

set_option maxHeartbeats 1600000 in
theorem firstMark_any (s : ByteArray) (w : World) (hM : MarkTab w) :
    Calls Tryz.prog 34 #[.string s] w fun e w' => e = .returned (.string ⟨(fm s.data.toList).toArray⟩) ∧ w' = w := by
  obtain ⟨tt, fr, hg⟩ := hM
  have HG : Hid (w.heap[0]? = some (.cells mkCells tt fr)) := hg
  clear hg
  go_enter Tryz.func34, Tryz.ntmps34
  go_wp2_with (refine wpList_load_row rfl 117 _ rfl 0 rfl tt _ fr _ HG.out Tryz.underlying117 rfl (by kernel_rfl) ?_)
  go_loop [6] (fun i => ∃ k : Nat, k ≤ 26 ∧ i = .int .i64 k ∧ fm s.data.toList = fmFrom s.data.toList k) (fun i => 26 - (intOf i).toNat)
  case atStart => exact ⟨0, by omega, rfl, rfl⟩
  case round =>
    obtain ⟨k, hk, rfl, hno⟩ := hrel
    have HN : Hid (fm s.data.toList = fmFrom s.data.toList k) := hno
    clear hno
    by_cases hlt : k < 26
    · have hI := mk_index k hlt
      have HP : Hid (Calls Tryz.prog 15 #[.string s, .string (mkS k)] w fun e w' => e = .returned (.bool ((mkAt k).isPrefixOf s.data.toList)) ∧ w' = w) := by
        have := Tryz.strings_HasPrefix s (mkS k) w
        rw [mkS_list] at this
        exact this
      cases hp : (mkAt k).isPrefixOf s.data.toList
      · have HR : Hid (fm s.data.toList = fmFrom s.data.toList (k + 1)) := HN.out.trans (fmFrom_miss hlt hp)
        rw [hp] at HP
        clear hp
        go_wp2_with (go_at_call 15; refine HP.out.mono ?_; rintro e w' ⟨rfl, rfl⟩)
        go_round
        case rel => exact ⟨k + 1, by omega, by go_num, HR.out⟩
        case measure => simp [intOf]; omega
      · have HR : Hid (fm s.data.toList = mkAt k) := HN.out.trans (fmFrom_hit hlt hp)
        rw [hp] at HP
        clear hp
        go_wp2_with (go_at_call 15; refine HP.out.mono ?_; rintro e w' ⟨rfl, rfl⟩)
        go_ret
        exact ⟨by rw [HR.out]; rfl, rfl⟩
    · have e : k = 26 := by omega
      have HR : Hid (fm s.data.toList = []) := by rw [e] at HN; exact HN.out.trans (fmFrom_end _)
      have hki : ¬ ((k : Int) < 26) := by omega
      clear e hlt hk
      go_wp2
      go_ret
      exact ⟨by rw [HR.out]; rfl, rfl⟩

theorem bytes_eq_iff (a b : ByteArray) : (a.toList == b.toList) = true ↔ a = b := by
  rw [beq_iff_eq, ByteArray.toList_eq, ByteArray.toList_eq]
  constructor
  · intro h
    cases a; cases b
    simp only at h
    rw [Array.toList_inj.1 h]
  · rintro rfl; rfl
end Go.Proofs.YtcbpjgnbdpfiiaaGreatDoor
set_option linter.unusedVariables false
namespace Go.Proofs.YtcbpjgnbdpfiiaaGreatDoor
set_option maxRecDepth 100000
open Go.RowKit

theorem isEmptyT_yes {s : ByteArray} (h : s.size = 0) : s.toList.isEmpty = true := by
  rw [ByteArray.toList_eq, List.isEmpty_iff, List.eq_nil_iff_length_eq_zero]; exact h
theorem isEmptyT_no {s : ByteArray} (h : ¬ s.size = 0) : s.toList.isEmpty = false := by
  rw [ByteArray.toList_eq, List.isEmpty_eq_false_iff, ne_eq, List.eq_nil_iff_length_eq_zero]; exact h
theorem below_drawnT {B : Nat} {w w' : World} (h : Below B w w') : ∀ n, Below B w (w'.drewN n)
  | 0 => h
  | n + 1 => (below_drawnT h n).drew

/-- what is said of a token's text -/
def txF (k : Int) (s : ByteArray) : Int :=
  if k = 3 then (if hasQ s.data.toList = true then 4 else textF s)
  else if k = 5 then (if isMk s.data.toList = true then 0 else 6)
  else if nmB s = true then 0 else 10
def numF (s : ByteArray) (n : Int) : Int := if n < 0 ∨ 1099511627776 < n then 2 else if s.size ≠ 0 then 4 else 0
theorem tokF_is (k : Int) (s : ByteArray) (n : Int) : tokF k s n = if ¬ (1 ≤ k ∧ k ≤ 5) then 3 else if k = 2 then numF s n else if n ≠ 0 then 4 else txF k s := by
  unfold tokF numF txF
  rfl

set_option maxHeartbeats 400000 in
theorem checkNumber_any (k n : Int) (s : ByteArray) (w : World) :
    Calls Tryz.prog 41 #[.agg #[.int .i64 k, .string s, .int .i64 n]] w fun e w' => e = .returned (.int .i64 (numF s n)) ∧ Below w.heap.size w w' := by
  have HF : Hid (numF s n = if n < 0 ∨ 1099511627776 < n then 2 else if s.size ≠ 0 then 4 else 0) := rfl
  generalize numF s n = F at HF
  by_cases hn : n < 0
  · have HR : Hid (F = 2) := HF.out.trans (if_pos (.inl hn))
    clear HF
    go_enter Tryz.func41, Tryz.ntmps41
    go_wp2
    go_ret
    exact ⟨ret_int HR.out.symm, (Below.refl _ _).alloc (Nat.le_refl _) _⟩
  by_cases hm : 1099511627776 < n
  · have HR : Hid (F = 2) := HF.out.trans (if_pos (.inr hm))
    clear HF
    go_enter Tryz.func41, Tryz.ntmps41
    go_wp2
    go_ret
    exact ⟨ret_int HR.out.symm, (Below.refl _ _).alloc (Nat.le_refl _) _⟩
  have HG : Hid (F = if s.size ≠ 0 then 4 else 0) := HF.out.trans (if_neg (by omega))
  clear HF
  by_cases hz : s.size = 0
  · have he := isEmptyT_yes hz
    have HR : Hid (F = 0) := HG.out.trans (if_neg (by omega))
    clear HG hz
    go_enter Tryz.func41, Tryz.ntmps41
    go_wp2
    go_ret
    exact ⟨ret_int HR.out.symm, (Below.refl _ _).alloc (Nat.le_refl _) _⟩
  · have he := isEmptyT_no hz
    have HR : Hid (F = 4) := HG.out.trans (if_pos hz)
    clear HG hz
    go_enter Tryz.func41, Tryz.ntmps41
    go_wp2
    go_ret
    exact ⟨ret_int HR.out.symm, (Below.refl _ _).alloc (Nat.le_refl _) _⟩

theorem hasQ_is (s : ByteArray) : decide (0 ≤ Lib.indexByte s.data.toList 34) = hasQ s.data.toList := (Lib.contains_iff_indexByte s.data.toList 34).symm
theorem fm_eq_yes {s : ByteArray} (h : isMk s.data.toList = true) : ((⟨(fm s.data.toList).toArray⟩ : ByteArray).toList == s.toList) = true := by
  rw [fm_isMk, Bool.and_eq_true] at h
  have h2 := of_decide_eq_true h.2
  rw [h2]
  simp [ByteArray.toList_eq]
theorem fm_eq_no {s : ByteArray} (h : isMk s.data.toList = false) (hz : ¬ s.size = 0) : ((⟨(fm s.data.toList).toArray⟩ : ByteArray).toList == s.toList) = false := by
  cases e : ((⟨(fm s.data.toList).toArray⟩ : ByteArray).toList == s.toList) with
  | false => rfl
  | true =>
    have e' := (bytes_eq_iff _ _).1 e
    rw [fm_isMk] at h
    have h1 : fm s.data.toList = s.data.toList := by
      have := congrArg (fun x : ByteArray => x.data.toList) e'
      simpa using this
    have h2 : s.data.toList ≠ [] := by
      intro e0
      exact hz (by simpa using congrArg List.length e0)
    rw [decide_eq_true h1, decide_eq_true h2] at h
    exact absurd h (by decide)

set_option maxHeartbeats 1600000 in
theorem checkTextOf_any (k n : Int) (s : ByteArray) (w : World) (hs : s.size ≤ maxLen) (hT : Tabs w) (hM : MarkTab w) (hg : 0 < w.heap.size) :
    Calls Tryz.prog 42 #[.agg #[.int .i64 k, .string s, .int .i64 n]] w fun e w' => e = .returned (.int .i64 (txF k s)) ∧ Below w.heap.size w w' := by
  have CT : Hid (∀ o, Calls Tryz.prog 65 #[.string s] (w.alloc o) fun e w' => e = .returned (.int .i64 (textF s)) ∧ Below (w.alloc o).heap.size (w.alloc o) w') :=
    fun o => checkText_any s _ hs (Utf8Tabs_below hT ((Below.refl _ _).alloc (Nat.le_refl _) _))
  have CQ : Hid (∀ W, Calls Tryz.prog 68 #[.string s, .string ⟨#[34]⟩] W fun e w' => e = .returned (.bool (hasQ s.data.toList)) ∧ w' = W) := fun W => by
    have := Tryz.strings_Contains_one s 34 W
    rw [hasQ_is] at this
    exact this
  have CF : Hid (∀ o z, Calls Tryz.prog 34 #[.string s] ((w.alloc o).drewN z) fun e w' => e = .returned (.string ⟨(fm s.data.toList).toArray⟩) ∧ w' = (w.alloc o).drewN z) :=
    fun o z => firstMark_any s _ (hM.below (below_drawnT ((Below.refl _ _).alloc (Nat.le_refl _) _) z) hg)
  have CN : Hid (∀ W, Calls Tryz.prog 62 #[.string s] W fun e w' => e = .returned (.bool (nmB s)) ∧ w' = W) := fun W => isName_any2 s W hs
  have HF : Hid (txF k s = if k = 3 then (if hasQ s.data.toList = true then 4 else textF s) else if k = 5 then (if isMk s.data.toList = true then 0 else 6) else if nmB s = true then 0 else 10) := rfl
  generalize txF k s = F at HF
  clear hT hM hs hg
  by_cases k3 : k = 3
  · subst k3
    have HG : Hid (F = if hasQ s.data.toList = true then 4 else textF s) := HF.out
    clear HF CF CN
    generalize hasQ s.data.toList = B at *
    cases B
    all_goals
      go_enter Tryz.func42, Tryz.ntmps42
      go_wp2_with (first | (go_at_call 68; refine (CQ.out _).mono ?_; rintro e w2 ⟨rfl, rfl⟩) | (go_at_call 65; refine (CT.out _).mono ?_; rintro e w2 ⟨rfl, hb⟩))
      go_ret
      first
      | exact ⟨ret_int HG.out.symm, (Below.refl _ _).alloc (Nat.le_refl _) _⟩
      | exact ⟨ret_int HG.out.symm, ((Below.refl _ _).alloc (Nat.le_refl _) _).trans (hb.mono (by simp))⟩
  clear CT CQ
  by_cases k5 : k = 5
  · subst k5
    have HG : Hid (F = if isMk s.data.toList = true then 0 else 6) := HF.out
    clear HF CN
    by_cases hz : s.size = 0
    · have he := isEmptyT_yes hz
      have HR : Hid (F = 6) := HG.out.trans (if_neg (by
        rw [show s.data.toList = [] from List.eq_nil_of_length_eq_zero (by simpa using hz)]; decide))
      clear HG hz CF
      go_enter Tryz.func42, Tryz.ntmps42
      go_wp2
      go_quiet (fail)
      go_wp2
      go_ret
      exact ⟨ret_int HR.out.symm, below_drawnT ((Below.refl _ _).alloc (Nat.le_refl _) _) _⟩
    · have he := isEmptyT_no hz
      cases hk : isMk s.data.toList
      · have hq := fm_eq_no hk hz
        rw [hk] at HG
        clear hk hz
        generalize (⟨(fm s.data.toList).toArray⟩ : ByteArray) = M at *
        go_enter Tryz.func42, Tryz.ntmps42
        go_wp2
        go_quiet ((go_at_call 34; exact Calls.quiet_of_same (CF.out _ _)))
        go_wp2
        go_ret
        exact ⟨ret_int HG.out.symm, below_drawnT ((Below.refl _ _).alloc (Nat.le_refl _) _) _⟩
      · have hq := fm_eq_yes hk
        rw [hk] at HG
        clear hk hz
        generalize (⟨(fm s.data.toList).toArray⟩ : ByteArray) = M at *
        go_enter Tryz.func42, Tryz.ntmps42
        go_wp2
        go_quiet ((go_at_call 34; exact Calls.quiet_of_same (CF.out _ _)))
        go_wp2
        go_ret
        exact ⟨ret_int HG.out.symm, below_drawnT ((Below.refl _ _).alloc (Nat.le_refl _) _) _⟩
  · have HG : Hid (F = if nmB s = true then 0 else 10) := HF.out.trans ((if_neg k3).trans (if_neg k5))
    have k3' : (k == 3) = false := by simpa using k3
    have k5' : (k == 5) = false := by simpa using k5
    clear HF CF k3 k5
    generalize nmB s = B at *
    cases B
    all_goals
      go_enter Tryz.func42, Tryz.ntmps42
      go_wp2_with (first | (go_at_call 62; refine (CN.out _).mono ?_; rintro e w2 ⟨rfl, rfl⟩))
      go_ret
      exact ⟨ret_int HG.out.symm, (Below.refl _ _).alloc (Nat.le_refl _) _⟩

set_option maxHeartbeats 800000 in
theorem checkToken_any (k n : Int) (s : ByteArray) (w : World) (hs : s.size ≤ maxLen) (hT : Tabs w) (hM : MarkTab w) (hg : 0 < w.heap.size) :
    Calls Tryz.prog 20 #[.agg #[.int .i64 k, .string s, .int .i64 n]] w fun e w' => e = .returned (.int .i64 (tokF k s n)) ∧ Below w.heap.size w w' := by
  have CT : Hid (∀ o, Calls Tryz.prog 42 #[.agg #[.int .i64 k, .string s, .int .i64 n]] (w.alloc o) fun e w' => e = .returned (.int .i64 (txF k s)) ∧ Below (w.alloc o).heap.size (w.alloc o) w') :=
    fun o => checkTextOf_any k n s _ hs (Utf8Tabs_below hT ((Below.refl _ _).alloc (Nat.le_refl _) _)) (hM.below ((Below.refl _ _).alloc (Nat.le_refl _) _) hg) (by simp <;> omega)
  have CN : Hid (∀ o, Calls Tryz.prog 41 #[.agg #[.int .i64 k, .string s, .int .i64 n]] (w.alloc o) fun e w' => e = .returned (.int .i64 (numF s n)) ∧ Below (w.alloc o).heap.size (w.alloc o) w') :=
    fun o => checkNumber_any k n s _
  have HF : Hid (tokF k s n = if ¬ (1 ≤ k ∧ k ≤ 5) then 3 else if k = 2 then numF s n else if n ≠ 0 then 4 else txF k s) := tokF_is k s n
  generalize tokF k s n = F at HF
  generalize numF s n = A at *
  generalize txF k s = X at *
  clear hT hM hs hg
  by_cases k2 : k = 2
  · subst k2
    have HG : Hid (F = A) := HF.out
    clear HF CT
    go_enter Tryz.func20, Tryz.ntmps20
    go_wp2_with (first | (go_at_call 41; refine (CN.out _).mono ?_; rintro e w2 ⟨rfl, hb⟩))
    go_ret
    exact ⟨ret_int HG.out.symm, ((Below.refl _ _).alloc (Nat.le_refl _) _).trans (hb.mono (by simp))⟩
  clear CN
  by_cases hk : 1 ≤ k ∧ k ≤ 5
  · have hk' : k = 1 ∨ k = 3 ∨ k = 4 ∨ k = 5 := by omega
    have HG : Hid (F = if n ≠ 0 then 4 else X) := HF.out.trans ((if_neg (by omega)).trans (if_neg k2))
    clear HF
    by_cases hn : n = 0
    · subst hn
      have HR : Hid (F = X) := HG.out
      clear HG k2 hk
      rcases hk' with rfl | rfl | rfl | rfl
      all_goals
        go_enter Tryz.func20, Tryz.ntmps20
        go_wp2_with (first | (go_at_call 42; refine (CT.out _).mono ?_; rintro e w2 ⟨rfl, hb⟩))
        go_ret
        exact ⟨ret_int HR.out.symm, ((Below.refl _ _).alloc (Nat.le_refl _) _).trans (hb.mono (by simp))⟩
    · have hn' : (n == 0) = false := by simpa using hn
      have HR : Hid (F = 4) := HG.out.trans (if_pos hn)
      clear HG k2 hk hn CT
      rcases hk' with rfl | rfl | rfl | rfl
      all_goals
        go_enter Tryz.func20, Tryz.ntmps20
        go_wp2
        go_ret
        exact ⟨ret_int HR.out.symm, (Below.refl _ _).alloc (Nat.le_refl _) _⟩
  · have HR : Hid (F = 3) := HF.out.trans (if_pos hk)
    have e1 : (k == 1) = false := by simp; omega
    have e2 : (k == 2) = false := by simp; omega
    have e3 : (k == 3) = false := by simp; omega
    have e4 : (k == 4) = false := by simp; omega
    have e5 : (k == 5) = false := by simp; omega
    clear HF CT k2 hk
    go_enter Tryz.func20, Tryz.ntmps20
    go_wp2
    go_ret
    exact ⟨ret_int HR.out.symm, (Below.refl _ _).alloc (Nat.le_refl _) _⟩
end Go.Proofs.YtcbpjgnbdpfiiaaGreatDoor
set_option linter.unusedVariables false
namespace Go.Proofs.YtcbpjgnbdpfiiaaGreatDoor
open Go

/-- no operation is a defer -/
def calmB (ops : Array Oper) : Bool := ops.all fun o => match o.op with | .defer _ => false | _ => true
theorem calm_at {ops : Array Oper} (h : calmB ops = true) {i : Nat} {o : Oper} (ho : ops[i]? = some o) : ∀ c, o.op ≠ .defer c := by
  intro c hc
  obtain ⟨hi, e⟩ := Array.getElem?_eq_some_iff.1 ho
  unfold calmB at h
  rw [Array.all_eq_true] at h
  have := h i hi
  rw [e, hc] at this
  cases this
theorem rows_round {n l : Nat} {P : Program} {row : String} {args : Array Value} {w : World} {R : Value → World → Prop} (h : Rows P row args w R) : RowsIn (Fence.wide.inRound l) n P row args w R :=
  fun c cs _ => let ⟨v, w', r, s⟩ := h c cs; ⟨v, w', r, stepsIn_wide.2 s⟩
theorem oper_round {n l : Nat} {P : Program} {o : Oper} {a : Act} {w : World} {K : Act → World → Prop} {Q : Exit → Act → World → Prop} (hd : ∀ c, o.op ≠ .defer c) (h : o.wp P a w K Q) : o.wpIn (Fence.wide.inRound l) n P a w K Q := by
  refine ⟨fun _ _ => trivial, ?_⟩
  rw [Oper.semAt_eq _ _ _ hd]
  unfold Oper.wp at h
  generalize (execOp a.eval o).run P w = r at *
  cases r with
  | ok x w' =>
    cases x <;> simp only [Oper.uponIn, Oper.upon] at h ⊢ <;>
      first
        | exact h
        | exact ⟨(fun e => absurd e (by simp [Fence.wide])), CallsIn.inRound l (callsIn_wide.2 h)⟩
        | exact ⟨(fun e => absurd e (by simp [Fence.wide])), rows_round h⟩
  | halt x w' => cases x <;> simp only [Oper.uponIn, Oper.upon] at h ⊢ <;> exact h
theorem wpAnyIn_inv {n l : Nat} {P : Program} {ops : Array Oper} {Q : Exit → Act → World → Prop} (I : Array Bool → Act → World → Prop) (ht : topB ops = true) (hcalm : calmB ops = true)
    (step : ∀ (listed : Array Bool) a w i o, listed.size = ops.size → I listed a w → ops[i]? = some o → listed.getD i true = false → (∀ e ∈ o.after, Region.binds .any e = true → listed.getD e.on false = true) →
      if Region.wanted o (yielded ops a.tmps) = true then o.wp P a w (fun a' w' => I (listed.setIfInBounds i true) a' w') Q else I (listed.setIfInBounds i true) (a.put o.dst undef) w)
    (fin : ∀ (listed : Array Bool) a w, listed.size = ops.size → I listed a w → (∀ i, i < ops.size → listed.getD i true = true) → Q .normal a w) :
    ∀ (fuel : Nat) (listed : Array Bool) a w, listed.size = ops.size → listed.toList.count false ≤ fuel → I listed a w → wpAnyIn (Fence.wide.inRound l) n P .any ops Q fuel listed a w := by
  intro fuel
  induction fuel with
  | zero =>
    intro listed a w hs hc hI
    have hall : ∀ i, i < ops.size → listed.getD i true = true := fun i hi => by
      cases h : listed.getD i true with
      | true => rfl
      | false => have := count_set h; omega
    refine ⟨?_, fin listed a w hs hI hall⟩
    unfold Region.ready
    refine List.filter_eq_nil_iff.2 fun i hi => ?_
    rw [hall i (List.mem_range.1 hi)]
    simp
  | succ fuel ih =>
    intro listed a w hs hc hI
    refine ⟨fun hr => fin listed a w hs hI (all_listed hs ht hr), fun i hi => ?_⟩
    unfold Region.ready at hi
    obtain ⟨h1, h2⟩ := List.mem_filter.1 hi
    have hlt := List.mem_range.1 h1
    rw [Array.getElem?_eq_getElem hlt] at h2
    simp only [Option.map_some, Option.getD_some, Bool.and_eq_true, Bool.not_eq_true'] at h2
    obtain ⟨h3, h4⟩ := h2
    rw [Array.all_eq_true'] at h4
    have hst := step listed a w i ops[i] hs hI (Array.getElem?_eq_getElem hlt) h3 (fun e he hb => by have := h4 e he; rw [hb] at this; simpa using this)
    have hnext : ∀ a' w', I (listed.setIfInBounds i true) a' w' → wpAnyIn (Fence.wide.inRound l) n P .any ops Q fuel (listed.setIfInBounds i true) a' w' := fun a' w' h => ih _ a' w' (by simpa using hs) (by have := count_set h3; omega) h
    unfold wpOpIn
    rw [Array.getElem?_eq_getElem hlt]
    show if Region.wanted ops[i] (yielded ops a.tmps) = true then _ else _
    split
    · rename_i hw
      rw [if_pos hw] at hst
      exact Oper.wpIn_mono hnext (oper_round (calm_at hcalm (Array.getElem?_eq_getElem hlt)) hst)
    · rename_i hw
      rw [if_neg hw] at hst
      exact ⟨fun _ _ => trivial, hnext _ _ hst⟩
/-- A REGION THAT DRAWS, BY ITS SLOTS, IN A ROUND. -/
theorem wpIn_region_slots {n l : Nat} {P : Program} {id : Nat} {ops : Array Oper} {Q : Exit → Act → World → Prop} {a0 : Act} {w0 : World} (hm : P.follows .mixedOrders = true) (D : Nat → Value → World → Prop) (G : Array Bool → Act → World → Prop) (ht : topB ops = true) (hcalm : calmB ops = true) (hd : dstB ops a0.tmps.size = true)
    (start : G (Array.replicate ops.size false) a0 w0.drew)
    (step : ∀ (listed : Array Bool) a w i (o : Oper), listed.size = ops.size → SlotInv ops a0 D G listed a w → ops[i]? = some o → listed.getD i true = false → (∀ e ∈ o.after, Region.binds .any e = true → listed.getD e.on false = true) →
      if Region.wanted o (yielded ops a.tmps) = true then o.wp P a w (fun a' w' => ∃ v, a' = a.put o.dst v ∧ D i v w' ∧ (∀ j u, D j u w → D j u w') ∧ G (listed.setIfInBounds i true) (a.put o.dst v) w') Q else D i undef w ∧ G (listed.setIfInBounds i true) (a.put o.dst undef) w)
    (fin : ∀ (v : Nat → Value) w, (∀ j (o : Oper) s, ops[j]? = some o → o.dst = some s → D j (v j) w) → (∀ j (o : Oper) s, ops[j]? = some o → o.dst = some s → (putAll ops.toList v 0 a0).tmps[s]? = some (v j)) → G (Array.replicate ops.size true) (putAll ops.toList v 0 a0) w → Q .normal (putAll ops.toList v 0 a0) w) :
    (Code.region id ops true).wpIn (Fence.wide.inRound l) n P Q a0 w0 := by
  refine wpIn_region_any hm ?_
  refine wpAnyIn_inv (SlotInv ops a0 D G) ht hcalm ?_ ?_ _ _ _ _ (by simp) (Nat.le_trans (List.count_le_length) (by simp)) ⟨rfl, rfl, fun _ _ => rfl, fun j o s _ _ hl => ?_, fun j o _ hl => ?_, start⟩
  · intro listed a w i o hsz h ho hl haf
    have k := step listed a w i o hsz h ho hl haf
    split
    · rename_i hw
      rw [if_pos hw] at k
      exact Oper.wp_mono (fun a' w' ⟨v, e, h1, h2, h3⟩ => by rw [e]; exact h.did hd hsz ho haf h1 h2 h3) k
    · rename_i hw
      rw [if_neg hw] at k
      exact h.did hd hsz ho haf k.1 (fun _ _ h => h) k.2
  · intro listed a w hsz h hall
    obtain ⟨v, e, hv⟩ := slots_end h hd hsz hall
    have hG := h.more
    rw [e] at hG ⊢
    refine fin v w hv (fun j o s ho hs => ?_) ?_
    · have := putAll_new ops.toList v 0 a0 s j o (by rw [Array.getElem?_toList]; exact ho) hs (dst_lt hd ho hs) (fun j' o' h1 h2 => dst_one hd ho (by rw [Array.getElem?_toList] at h1; exact h1) hs h2)
      rw [Nat.zero_add] at this
      exact this
    have hl : listed = Array.replicate ops.size true := by
      refine Array.ext (by simpa using hsz) fun i h1 h2 => ?_
      have := hall i (by omega)
      rw [Array.getD_eq_getD_getElem?, Array.getElem?_eq_getElem h1] at this
      simpa using this
    rw [← hl]
    exact hG
  · rw [Array.getD_eq_getD_getElem?, Array.getElem?_replicate] at hl
    split at hl <;> cases hl
  · rw [Array.getD_eq_getD_getElem?, Array.getElem?_replicate] at hl
    split at hl <;> cases hl
end Go.Proofs.YtcbpjgnbdpfiiaaGreatDoor
