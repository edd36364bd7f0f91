/-
  CONTRACTS: small functions of package core that only look.
-/
import Derived.Test.YtcbpjgnbdpfiiaaGreatDoorLaidP
import Derived.Test.YtcbpjgnbdpfiiaaGreatDoorRgIn
import Derived.Test.YtcbpjgnbdpfiiaaGreatDoorRgIn
set_option linter.unusedVariables false
namespace Go.Proofs.YtcbpjgnbdpfiiaaGreatDoor
set_option maxRecDepth 100000
open Go.RowKit Go.WideShapes

theorem checkArgs_1 (m : Nat) (w : World) : Calls Tryz.prog 132 #[.int .i64 1, .int .i64 m] w fun e w' => e = .returned (.int .i64 (cntF 1 m)) ∧ w' = w := by
  by_cases h : m = 0
  · subst h
    go_enter Tryz.func132, Tryz.ntmps132
    go_wp2
    go_ret
    exact ⟨ret_int (by simp [cntF]), rfl⟩
  · have h' : ((m : Int) == 0) = false := by simp; omega
    go_enter Tryz.func132, Tryz.ntmps132
    go_wp2
    go_ret
    exact ⟨ret_int (by simp [cntF, h]), rfl⟩
theorem checkArgs_2 (m : Nat) (w : World) : Calls Tryz.prog 132 #[.int .i64 2, .int .i64 m] w fun e w' => e = .returned (.int .i64 (cntF 2 m)) ∧ w' = w := by
  by_cases h : m = 0
  · subst h
    go_enter Tryz.func132, Tryz.ntmps132
    go_wp2
    go_ret
    exact ⟨ret_int (by simp [cntF]), rfl⟩
  · have h' : ((m : Int) == 0) = false := by simp; omega
    go_enter Tryz.func132, Tryz.ntmps132
    go_wp2
    go_ret
    exact ⟨ret_int (by simp [cntF, h]), rfl⟩
theorem checkArgs_3 (m : Nat) (w : World) : Calls Tryz.prog 132 #[.int .i64 3, .int .i64 m] w fun e w' => e = .returned (.int .i64 (cntF 3 m)) ∧ w' = w := by
  go_enter Tryz.func132, Tryz.ntmps132
  go_wp2
  go_ret
  exact ⟨ret_int (by simp [cntF]), rfl⟩
theorem checkArgs_4 (m : Nat) (w : World) : Calls Tryz.prog 132 #[.int .i64 4, .int .i64 m] w fun e w' => e = .returned (.int .i64 (cntF 4 m)) ∧ w' = w := by
  by_cases h : m = 2
  · subst h
    go_enter Tryz.func132, Tryz.ntmps132
    go_wp2
    go_ret
    exact ⟨ret_int (by simp [cntF]), rfl⟩
  · have h' : ((m : Int) == 2) = false := by simp; omega
    go_enter Tryz.func132, Tryz.ntmps132
    go_wp2
    go_ret
    exact ⟨ret_int (by simp [cntF, h]), rfl⟩
theorem checkArgs_5 (m : Nat) (w : World) : Calls Tryz.prog 132 #[.int .i64 5, .int .i64 m] w fun e w' => e = .returned (.int .i64 (cntF 5 m)) ∧ w' = w := by
  by_cases h : m = 2
  · subst h
    go_enter Tryz.func132, Tryz.ntmps132
    go_wp2
    go_ret
    exact ⟨ret_int (by simp [cntF]), rfl⟩
  · have h' : ((m : Int) == 2) = false := by simp; omega
    go_enter Tryz.func132, Tryz.ntmps132
    go_wp2
    go_ret
    exact ⟨ret_int (by simp [cntF, h]), rfl⟩
theorem checkArgs_6 (m : Nat) (w : World) : Calls Tryz.prog 132 #[.int .i64 6, .int .i64 m] w fun e w' => e = .returned (.int .i64 (cntF 6 m)) ∧ w' = w := by
  by_cases h : m = 3
  · subst h
    go_enter Tryz.func132, Tryz.ntmps132
    go_wp2
    go_ret
    exact ⟨ret_int (by simp [cntF]), rfl⟩
  · have h' : ((m : Int) == 3) = false := by simp; omega
    go_enter Tryz.func132, Tryz.ntmps132
    go_wp2
    go_ret
    exact ⟨ret_int (by simp [cntF, h]), rfl⟩
theorem checkArgs_7 (m : Nat) (w : World) : Calls Tryz.prog 132 #[.int .i64 7, .int .i64 m] w fun e w' => e = .returned (.int .i64 (cntF 7 m)) ∧ w' = w := by
  by_cases h : m = 3
  · subst h
    go_enter Tryz.func132, Tryz.ntmps132
    go_wp2
    go_ret
    exact ⟨ret_int (by simp [cntF]), rfl⟩
  · have h' : ((m : Int) == 3) = false := by simp; omega
    go_enter Tryz.func132, Tryz.ntmps132
    go_wp2
    go_ret
    exact ⟨ret_int (by simp [cntF, h]), rfl⟩
theorem checkArgs_8 (m : Nat) (w : World) : Calls Tryz.prog 132 #[.int .i64 8, .int .i64 m] w fun e w' => e = .returned (.int .i64 (cntF 8 m)) ∧ w' = w := by
  go_enter Tryz.func132, Tryz.ntmps132
  go_wp2
  go_ret
  exact ⟨ret_int (by simp [cntF]), rfl⟩
theorem checkArgs_9 (m : Nat) (w : World) : Calls Tryz.prog 132 #[.int .i64 9, .int .i64 m] w fun e w' => e = .returned (.int .i64 (cntF 9 m)) ∧ w' = w := by
  by_cases h : m = 1
  · subst h
    go_enter Tryz.func132, Tryz.ntmps132
    go_wp2
    go_ret
    exact ⟨ret_int (by simp [cntF]), rfl⟩
  · have h' : ((m : Int) == 1) = false := by simp; omega
    go_enter Tryz.func132, Tryz.ntmps132
    go_wp2
    go_ret
    exact ⟨ret_int (by simp [cntF, h]), rfl⟩
theorem checkArgs_10 (m : Nat) (w : World) : Calls Tryz.prog 132 #[.int .i64 10, .int .i64 m] w fun e w' => e = .returned (.int .i64 (cntF 10 m)) ∧ w' = w := by
  by_cases h : m = 1
  · subst h
    go_enter Tryz.func132, Tryz.ntmps132
    go_wp2
    go_ret
    exact ⟨ret_int (by simp [cntF]), rfl⟩
  · have h' : ((m : Int) == 1) = false := by simp; omega
    go_enter Tryz.func132, Tryz.ntmps132
    go_wp2
    go_ret
    exact ⟨ret_int (by simp [cntF, h]), rfl⟩
theorem checkArgs_11 (m : Nat) (w : World) : Calls Tryz.prog 132 #[.int .i64 11, .int .i64 m] w fun e w' => e = .returned (.int .i64 (cntF 11 m)) ∧ w' = w := by
  by_cases h : m = 0
  · subst h
    go_enter Tryz.func132, Tryz.ntmps132
    go_wp2
    go_ret
    exact ⟨ret_int (by simp [cntF]), rfl⟩
  · have h' : ((m : Int) == 0) = false := by simp; omega
    go_enter Tryz.func132, Tryz.ntmps132
    go_wp2
    go_ret
    exact ⟨ret_int (by simp [cntF, h]), rfl⟩
theorem checkArgs_no (k : Int) (m : Nat) (w : World) (h1 : k ≠ 1) (h2 : k ≠ 2) (h11 : k ≠ 11) (h9 : k ≠ 9) (h10 : k ≠ 10) (h4 : k ≠ 4) (h5 : k ≠ 5) (h6 : k ≠ 6) (h7 : k ≠ 7) (h3 : k ≠ 3) (h8 : k ≠ 8) : Calls Tryz.prog 132 #[.int .i64 k, .int .i64 m] w fun e w' => e = .returned (.int .i64 (cntF k m)) ∧ w' = w := by
  have g1 : (k == 1) = false := by simpa using h1
  have g2 : (k == 2) = false := by simpa using h2
  have g11 : (k == 11) = false := by simpa using h11
  have g9 : (k == 9) = false := by simpa using h9
  have g10 : (k == 10) = false := by simpa using h10
  have g4 : (k == 4) = false := by simpa using h4
  have g5 : (k == 5) = false := by simpa using h5
  have g6 : (k == 6) = false := by simpa using h6
  have g7 : (k == 7) = false := by simpa using h7
  have g3 : (k == 3) = false := by simpa using h3
  have g8 : (k == 8) = false := by simpa using h8
  go_enter Tryz.func132, Tryz.ntmps132
  go_wp2
  go_ret
  exact ⟨ret_int (by unfold cntF; rw [if_neg (by omega), if_neg (by omega), if_neg (by omega), if_neg (by omega), if_neg (by omega)]), rfl⟩
theorem checkArgs_is (k : Int) (m : Nat) (w : World) : Calls Tryz.prog 132 #[.int .i64 k, .int .i64 m] w fun e w' => e = .returned (.int .i64 (cntF k m)) ∧ w' = w := by
  by_cases h1 : k = 1
  · subst h1; exact checkArgs_1 m w
  by_cases h2 : k = 2
  · subst h2; exact checkArgs_2 m w
  by_cases h11 : k = 11
  · subst h11; exact checkArgs_11 m w
  by_cases h9 : k = 9
  · subst h9; exact checkArgs_9 m w
  by_cases h10 : k = 10
  · subst h10; exact checkArgs_10 m w
  by_cases h4 : k = 4
  · subst h4; exact checkArgs_4 m w
  by_cases h5 : k = 5
  · subst h5; exact checkArgs_5 m w
  by_cases h6 : k = 6
  · subst h6; exact checkArgs_6 m w
  by_cases h7 : k = 7
  · subst h7; exact checkArgs_7 m w
  by_cases h3 : k = 3
  · subst h3; exact checkArgs_3 m w
  by_cases h8 : k = 8
  · subst h8; exact checkArgs_8 m w
  exact checkArgs_no k m w h1 h2 h11 h9 h10 h4 h5 h6 h7 h3 h8
theorem binds_is (k : Int) (w : World) : Calls Tryz.prog 106 #[.int .i64 k] w fun e w' => e = .returned (.bool (bindsB k)) ∧ w' = w := by
  by_cases h4 : k = 4
  · subst h4
    go_enter Tryz.func106, Tryz.ntmps106
    go_wp2
    go_ret
    exact ⟨ret_bool (by simp [bindsB]), rfl⟩
  · have g4 : (k == 4) = false := by simpa using h4
    by_cases h5 : k = 5
    · subst h5
      go_enter Tryz.func106, Tryz.ntmps106
      go_wp2
      go_ret
      exact ⟨ret_bool (by simp [bindsB]), rfl⟩
    · have g5 : (k == 5) = false := by simpa using h5
      by_cases h6 : k = 6
      · subst h6
        go_enter Tryz.func106, Tryz.ntmps106
        go_wp2
        go_ret
        exact ⟨ret_bool (by simp [bindsB]), rfl⟩
      · have g6 : (k == 6) = false := by simpa using h6
        go_enter Tryz.func106, Tryz.ntmps106
        go_wp2
        go_ret
        exact ⟨ret_bool (by simp [bindsB, h4, h5, h6]), rfl⟩
theorem atOf_is (b off : Nat) (k : Int) (it : It) (nm a : ByteArray) (n ax tk : Int) (tn : ByteArray) (v : Value) (w : World) (h : HeadAt w b off k it nm a n ax tk tn v) :
    Calls Tryz.prog 108 #[.pointer (some ⟨b, off, none⟩)] w fun e w' => e = .returned (.string (atN k a)) ∧ w' = w := by
  have h0 := h.c0
  have h5 := h.c5
  clear h
  by_cases h4 : k = 4
  · subst h4
    go_enter Tryz.func108, Tryz.ntmps108
    go_wp2
    go_ret
    exact ⟨rfl, rfl⟩
  · have g4 : (k == 4) = false := by simpa using h4
    rw [show atN k a = a from if_neg h4]
    go_enter Tryz.func108, Tryz.ntmps108
    go_wp2
    go_ret
    exact ⟨rfl, rfl⟩
theorem checkNames_is (x a : ByteArray) (w : World) (hx : x.size ≤ maxLen) (ha : a.size ≤ maxLen) :
    Calls Tryz.prog 82 #[.string x, .string a] w fun e w' => e = .returned (.int .i64 (namesF x a)) ∧ w' = w := by
  unfold maxLen at hx ha
  by_cases h0 : x.size = 0
  · have g0 := isEmpty_yes h0
    go_enter Tryz.func82, Tryz.ntmps82
    go_wp2
    go_ret
    exact ⟨ret_int (by unfold namesF; rw [if_pos (by omega)]), rfl⟩
  · have g0 := isEmpty_no h0
    by_cases h1 : (20 : Int) < (x.size : Int)
    · go_enter Tryz.func82, Tryz.ntmps82
      go_wp2
      go_ret
      exact ⟨ret_int (by unfold namesF; rw [if_pos (by omega)]), rfl⟩
    · by_cases h2 : (20 : Int) < (a.size : Int)
      · go_enter Tryz.func82, Tryz.ntmps82
        go_wp2
        go_ret
        exact ⟨ret_int (by unfold namesF; rw [if_pos (by omega)]), rfl⟩
      · cases h3 : (x.toList == a.toList)
        · go_enter Tryz.func82, Tryz.ntmps82
          go_wp2
          go_ret
          exact ⟨ret_int (by unfold namesF; rw [if_neg (by omega), h3, if_neg (by simp)]), rfl⟩
        · go_enter Tryz.func82, Tryz.ntmps82
          go_wp2
          go_ret
          exact ⟨ret_int (by unfold namesF; rw [if_neg (by omega), h3, if_pos rfl]), rfl⟩
theorem checkStep_is (ax tk : Int) (tn : ByteArray) (w : World) :
    Calls Tryz.prog 78 #[.int .i64 ax, .agg #[.int .i64 tk, .string tn]] w fun e w' => e = .returned (.int .i64 (stepF ax tk)) ∧ Below w.heap.size w w' := by
  have HB : Hid (Below w.heap.size w (w.alloc (.cells #[.int .i64 tk, .string tn] 34))) := (Below.refl _ _).alloc (Nat.le_refl _) _
  by_cases h1 : ax < 1
  · go_enter Tryz.func78, Tryz.ntmps78
    go_wp2
    go_ret
    exact ⟨ret_int (by unfold stepF; rw [if_neg (by omega)]), HB.out⟩
  · by_cases h2 : 12 < ax
    · go_enter Tryz.func78, Tryz.ntmps78
      go_wp2
      go_ret
      exact ⟨ret_int (by unfold stepF; rw [if_neg (by omega)]), HB.out⟩
    · by_cases h3 : tk < 1
      · go_enter Tryz.func78, Tryz.ntmps78
        go_wp2
        go_ret
        exact ⟨ret_int (by unfold stepF; rw [if_neg (by omega)]), HB.out⟩
      · by_cases h4 : 5 < tk
        · go_enter Tryz.func78, Tryz.ntmps78
          go_wp2
          go_ret
          exact ⟨ret_int (by unfold stepF; rw [if_neg (by omega)]), HB.out⟩
        · go_enter Tryz.func78, Tryz.ntmps78
          go_wp2
          go_ret
          exact ⟨ret_int (by unfold stepF; rw [if_pos (by omega)]), HB.out⟩
theorem checkMake_is (n : Int) (x : ByteArray) (w : World) (hx : x.size ≤ maxLen) :
    Calls Tryz.prog 79 #[.int .i64 n, .string x] w fun e w' => e = .returned (.int .i64 (makeF n x)) ∧ Below w.heap.size w w' := by
  have C : Hid (Calls Tryz.prog 123 #[.string x] w fun e w' => e = .returned (.int .i64 (nameF x)) ∧ Below w.heap.size w w') := by
    refine (checkName_any x w hx).mono ?_
    rintro e w' ⟨h1, h2⟩
    first | exact ⟨h1, h2⟩ | (subst h2; exact ⟨h1, Below.refl _ _⟩)
  clear hx
  by_cases h1 : n = 1
  · subst h1
    go_enter Tryz.func79, Tryz.ntmps79
    go_wp2_with (go_at_call 123; refine C.out.mono ?_; rintro e w1 ⟨rfl, hb1⟩)
    go_ret
    exact ⟨ret_int (by simp [makeF]), hb1⟩
  · have g1 : (n == 1) = false := by simpa using h1
    by_cases h2 : n = 2
    · subst h2
      go_enter Tryz.func79, Tryz.ntmps79
      go_wp2_with (go_at_call 123; refine C.out.mono ?_; rintro e w1 ⟨rfl, hb1⟩)
      go_ret
      exact ⟨ret_int (by simp [makeF]), hb1⟩
    · have g2 : (n == 2) = false := by simpa using h2
      by_cases h3 : n = 3
      · subst h3
        go_enter Tryz.func79, Tryz.ntmps79
        go_wp2
        go_ret
        exact ⟨ret_int (by simp [makeF]), Below.refl _ _⟩
      · have g3 : (n == 3) = false := by simpa using h3
        go_enter Tryz.func79, Tryz.ntmps79
        go_wp2
        go_ret
        exact ⟨ret_int (by simp [makeF, h1, h2, h3]), Below.refl _ _⟩
theorem checkLit_is (x : It) (w : World) (hs : x.s.size ≤ maxLen) (hT : Tabs w) :
    Calls Tryz.prog 76 #[.agg #[.int .i64 x.kind, .int .i64 x.n, .string x.s]] w fun e w' => e = .returned (.int .i64 (litF x)) ∧ Below w.heap.size w w' := by
  have HB : Hid (Below w.heap.size w (w.alloc (.cells #[.int .i64 x.kind, .int .i64 x.n, .string x.s] 32))) := (Below.refl _ _).alloc (Nat.le_refl _) _
  have C : Hid (∀ W, Below w.heap.size w W → Calls Tryz.prog 122 #[.agg #[.int .i64 x.kind, .int .i64 x.n, .string x.s]] W fun e w' => e = .returned (.int .i64 (itemF ⟨x.kind, x.n, x.s⟩)) ∧ Below W.heap.size W w') := fun W hW => checkItem_any x.kind x.n x.s W hs (Utf8Tabs_below hT hW)
  clear hs hT
  obtain ⟨k, n, s⟩ := x
  by_cases h1 : k = 1
  · subst h1
    go_enter Tryz.func76, Tryz.ntmps76
    go_wp2
    go_ret
    exact ⟨ret_int (by simp [litF]), HB.out⟩
  · have g1 : (k == 1) = false := by simpa using h1
    go_enter Tryz.func76, Tryz.ntmps76
    go_wp2_with (go_at_call 122; refine (C.out _ HB.out).mono ?_; rintro e w1 ⟨rfl, hb1⟩; have HB1 : Hid (Below w.heap.size w w1) := HB.out.trans (hb1.mono (by simp)); clear hb1)
    go_ret
    exact ⟨ret_int (by unfold litF itemF; rw [if_neg h1]), HB1.out⟩
theorem scheck_is (sb : Nat) (N : ByteArray → Nat) (x : ByteArray) (w : World) (hx : x.size ≤ maxLen) (h : SMap w sb N) :
    Calls Tryz.prog 77 #[.map (some sb), .string x] w fun e w' => e = .returned (.int .i64 (if N x = 0 then 6 else 0)) ∧ w' = w := by
  obtain ⟨V, hV, hN⟩ := h
  have HL : Hid ((Instr.lookup 76 (.map (some sb)) (.string x) false).run Tryz.prog w = .ok (.int .i64 (N x : Int)) w) := by
    have h1 : (Instr.lookup 76 (.map (some sb)) (.string x) false).run Tryz.prog w = .ok (.int .i64 (N x : Int)) w := by rw [← hN x]; exact (hV.look hx Tryz.underlying76 (zeroI w)).1
    exact h1
  have hl := HL.out
  clear hV hN HL
  by_cases h0 : N x = 0
  · rw [h0] at hl
    rw [if_pos h0]
    go_enter Tryz.func77, Tryz.ntmps77
    go_wp2
    go_ret
    exact ⟨rfl, rfl⟩
  · have g0 : ((N x : Int) == 0) = false := by simp; omega
    rw [if_neg h0]
    go_enter Tryz.func77, Tryz.ntmps77
    go_wp2
    go_ret
    exact ⟨rfl, rfl⟩
theorem fns_at (x : ByteArray) : (0 < argsN x ∧ fnsV x = some (fV x (argsN x))) ∨ (argsN x < 0 ∧ fnsV x = none) := by
  unfold fnsV FnV
  by_cases h : 0 < argsN x
  · exact .inl ⟨h, if_pos (decide_eq_true h)⟩
  · refine .inr ⟨?_, if_neg (by simpa using h)⟩
    unfold argsN at h ⊢
    split at h <;> rename_i h1
    · omega
    · rw [if_neg h1]
      split at h <;> rename_i h2
      · omega
      · rw [if_neg h2]
        split at h <;> rename_i h3
        · omega
        · rw [if_neg h3]; decide
theorem tcheck_is (tb : Nat) (x : ByteArray) (m : Nat) (w : World) (hx : x.size ≤ maxLen) (h : VMap w tb fnsV) :
    Calls Tryz.prog 80 #[.map (some tb), .string x, .int .i64 m] w fun e w' => e = .returned (.int .i64 (callF x m)) ∧ Below w.heap.size w w' := by
  have hl := (h.look hx Tryz.underlying73 (zeroF w)).2
  clear h
  rcases fns_at x with ⟨h1, h2⟩ | ⟨h1, h2⟩
  · rw [h2] at hl
    have hl' : (Instr.lookup 73 (.map (some tb)) (.string x) true).run Tryz.prog w = .ok (.tuple #[.agg #[.string x, .int .i64 (argsN x)], .bool true]) w := hl
    clear hl h2
    have HB : Hid (Below w.heap.size w (w.alloc (.cells #[.string x, .int .i64 (argsN x)] 98))) := (Below.refl _ _).alloc (Nat.le_refl _) _
    have HF : Hid (callF x m = if argsN x = (m : Int) then 0 else 11) := if_neg (by omega)
    generalize argsN x = ar at *
    by_cases h3 : ar = (m : Int)
    · rw [HF.out, if_pos h3]
      subst h3
      go_enter Tryz.func80, Tryz.ntmps80
      go_wp2
      go_ret
      exact ⟨rfl, HB.out⟩
    · have g3 : (ar != (m : Int)) = true := by simpa using h3
      have g4 : (ar == (m : Int)) = false := by simpa using h3
      rw [HF.out, if_neg h3]
      go_enter Tryz.func80, Tryz.ntmps80
      go_wp2
      go_ret
      exact ⟨rfl, HB.out⟩
  · rw [h2] at hl
    have hl' : (Instr.lookup 73 (.map (some tb)) (.string x) true).run Tryz.prog w = .ok (.tuple #[.agg #[.string ByteArray.empty, .int .i64 0], .bool false]) w := hl
    clear hl h2
    have HF : Hid (callF x m = 6) := if_pos h1
    have HB : Hid (Below w.heap.size w (w.alloc (.cells #[.string ByteArray.empty, .int .i64 0] 98))) := (Below.refl _ _).alloc (Nat.le_refl _) _
    rw [HF.out]
    go_enter Tryz.func80, Tryz.ntmps80
    go_wp2
    go_ret
    exact ⟨rfl, HB.out⟩
end Go.Proofs.YtcbpjgnbdpfiiaaGreatDoor
