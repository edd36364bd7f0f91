/-
  CONTRACTS: slices.IndexFunc and slices.ContainsFunc over rows, for whatever function value that only looks.
-/
import Derived.Test.YtieoefalngioiaaDoorKpSame
import Derived.Test.YtieoefalngioiaaDoorKpEx
import Derived.Deep.QuietTactic
import Derived.BigQuiet
import Derived.Sort.AtCall
set_option linter.unusedVariables false
namespace Go.Proofs.YtieoefalngioiaaDoor
set_option maxRecDepth 100000
open Go.RowKit

theorem rows_drawn {w : World} {v : Value} {m : Nat} {R : Nat → Row} (h : RowsIs w v m R) (q : Nat) : RowsIs (w.drewN q) v m R := h.below (below_drawn (Below.refl _ _) q)
set_option maxHeartbeats 3200000 in
theorem indexFunc_gen (f : FuncId) (caps : Array Value) (K : Nat → Bool) (v : Value) (m : Nat) (S : Nat → Row) (w : World) (hv : RowsIs w v m S)
    (hrun : ∀ (args : Array Value) (W : World), Sem.run Tryd.prog (callFunc f args) W = .ok (.enter f args) W)
    (hcall : ∀ k q u, k < m → ItsIs (w.drewN q) u (S k).len (S k).at_ → Calls Tryd.prog f (#[u] ++ caps) (w.drewN q) fun e w' => e = .returned (.bool (K k)) ∧ ∃ q', w' = (w.drewN q).drewN q') :
    Calls Tryd.prog 17 #[v, .func (.func f) #[] caps] w fun e w' => ∃ r : Int, e = .returned (.int .i64 r) ∧ (decide (0 ≤ r) = (List.range m).any K) ∧ ∃ q, w' = w.drewN q := by
  obtain ⟨a, cap, rfl, h1, h2, _, h3⟩ := hv
  have HQ : Hid (∀ k q, k < m → ∃ b off x, a = some ⟨b, off, none⟩ ∧ (w.drewN q).cell? ⟨b, off + k, none⟩ = some x ∧ ItsIs (w.drewN q) x (S k).len (S k).at_) := fun k q hk => by
    obtain ⟨b, off, e1, e2, e3⟩ := h3 (by omega)
    obtain ⟨x, e4, e5⟩ := e3 k hk
    exact ⟨b, off, x, e1, (drawn_keep2 rfl).trans e4, its_drawn e5 q⟩
  have HC : Hid (∀ k q u, k < m → ItsIs (w.drewN q) u (S k).len (S k).at_ → Calls Tryd.prog f (#[u] ++ caps) (w.drewN q) fun e w' => e = .returned (.bool (K k)) ∧ ∃ q', w' = (w.drewN q).drewN q') := hcall
  unfold maxLen at h2
  clear h3 hcall
  go_enter Tryd.func17, Tryd.ntmps17
  go_wp2
  go_loopw [8] (fun i wr => ∃ k q : Nat, k ≤ m ∧ i = .int .i64 k ∧ wr = w.drewN q ∧ ∀ j, j < k → K j = false) (fun i _ => m - (intOf i).toNat)
  case atStart => exact ⟨0, 0, Nat.zero_le _, rfl, rfl, fun j hj => absurd hj (Nat.not_lt_zero _)⟩
  case round =>
    obtain ⟨k, q, hk, rfl, hwr, hno⟩ := hrel
    have HNO : Hid (∀ j, j < k → K j = false) := hno
    by_cases hlt : k < m
    · obtain ⟨b, off, x, rfl, e1, hx⟩ := HQ.out k q hlt
      have CJ : Hid (Calls Tryd.prog f (#[x] ++ caps) (w.drewN q) fun e w' => e = .returned (.bool (K k)) ∧ ∃ q', w' = (w.drewN q).drewN q') := HC.out k q x hlt hx
      rw [← hwr] at e1 CJ
      have HW : Hid (wr = w.drewN q) := hwr
      obtain ⟨xa, xc, rfl, _⟩ := hx
      have hki : (k : Int) < (m : Int) := by omega
      clear hwr hno
      cases hK : K k
      · rw [hK] at CJ
        have HK : Hid (K k = false) := hK
        clear hK
        go_wp2_with fail
        refine CJ.out.mono ?_
        rintro e w6 ⟨rfl, q6, hw6⟩
        have HW6 : Hid (w6 = wr.drewN q6) := hw6
        clear hw6
        go_wp2_with fail
        go_roundw
        case rel => exact ⟨k + 1, _, by omega, by go_num, by rw [HW6.out, HW.out, World.drewN_drewN], fun j hj => if h : j = k then h ▸ HK.out else HNO.out j (by omega)⟩
        case measure => simp [intOf]; omega
      · rw [hK] at CJ
        have HK : Hid (K k = true) := hK
        clear hK
        go_wp2_with fail
        refine CJ.out.mono ?_
        rintro e w6 ⟨rfl, q6, hw6⟩
        have HW6 : Hid (w6 = wr.drewN q6) := hw6
        clear hw6
        go_wp2_with fail
        go_ret
        refine ⟨(k : Int), rfl, ?_, _, by rw [HW6.out, HW.out, World.drewN_drewN]⟩
        rw [List.any_eq_true.2 ⟨k, List.mem_range.2 hlt, HK.out⟩]
        simp
    · have HW : Hid (wr = w.drewN q) := hwr
      clear hwr hno
      go_wp2
      go_ret
      refine ⟨-1, rfl, ?_, q, HW.out⟩
      rw [List.any_eq_false.2 (fun j hj => by rw [HNO.out j (by have := List.mem_range.1 hj; omega)]; decide)]
      rfl
set_option maxHeartbeats 1600000 in
theorem containsFunc_gen (f : FuncId) (caps : Array Value) (K : Nat → Bool) (v : Value) (m : Nat) (S : Nat → Row) (w : World) (hv : RowsIs w v m S)
    (hrun : ∀ (args : Array Value) (W : World), Sem.run Tryd.prog (callFunc f args) W = .ok (.enter f args) W)
    (hcall : ∀ k q u, k < m → ItsIs (w.drewN q) u (S k).len (S k).at_ → Calls Tryd.prog f (#[u] ++ caps) (w.drewN q) fun e w' => e = .returned (.bool (K k)) ∧ ∃ q', w' = (w.drewN q).drewN q') :
    Calls Tryd.prog 7 #[v, .func (.func f) #[] caps] w fun e w' => e = .returned (.bool ((List.range m).any K)) ∧ ∃ q, w' = w.drewN q := by
  have C : Hid (Calls Tryd.prog 17 #[v, .func (.func f) #[] caps] w fun e w' => ∃ r : Int, e = .returned (.int .i64 r) ∧ (decide (0 ≤ r) = (List.range m).any K) ∧ ∃ q, w' = w.drewN q) := indexFunc_gen f caps K v m S w hv hrun hcall
  obtain ⟨a, cap, rfl, _⟩ := hv
  clear hcall hrun
  go_enter Tryd.func7, Tryd.ntmps7
  go_wp2_with (go_at_call 17; refine C.out.mono ?_; rintro e w1 ⟨r, rfl, hr, q, hw⟩; have HR : Hid (decide (0 ≤ r) = (List.range m).any K) := hr; have HW : Hid (w1 = w.drewN q) := hw; clear hr hw)
  go_ret
  exact ⟨by rw [← HR.out]; rfl, q, HW.out⟩
set_option maxHeartbeats 3200000 in
theorem same_is (u v : Value) (X Y : Nat → It) (g : Nat) (both : Bool) (w : World) (hu : ItsIs w u 2 X) (hv : ItsIs w v 2 Y) (hg : w.cell? ⟨g, 0, none⟩ = some (.bool both)) :
    Calls Tryd.prog 6 #[u, v, .pointer (some ⟨g, 0, none⟩)] w fun e w' => e = .returned (.bool (itB (X 0) (Y 0) && (!both || itB (X 1) (Y 1)))) ∧ ∃ q, w' = w.drewN q := by
  obtain ⟨a, cap, rfl, h1, h2, _, h3⟩ := hu
  obtain ⟨a', cap', rfl, h1', h2', _, h3'⟩ := hv
  obtain ⟨b, off, rfl, hb, h4⟩ := h3 (by omega)
  obtain ⟨b', off', rfl, hb', h4'⟩ := h3' (by omega)
  obtain ⟨e0, e1, e2⟩ := h4 0 (by omega)
  obtain ⟨e3, e4, e5⟩ := h4 1 (by omega)
  obtain ⟨f0, f1, f2⟩ := h4' 0 (by omega)
  obtain ⟨f3, f4, f5⟩ := h4' 1 (by omega)
  simp only [Nat.zero_mul, Nat.add_zero, Nat.one_mul] at e0 e1 e2 e3 e4 e5 f0 f1 f2 f3 f4 f5
  clear h3 h4 h3' h4'
  cases hs0 : itB (X 0) (Y 0)
  · have hx := itB_no hs0
    clear hs0
    generalize (X 0).kind = xkind0 at *
    generalize (Y 0).kind = ykind0 at *
    generalize (X 0).n = xn0 at *
    generalize (Y 0).n = yn0 at *
    generalize (X 0).s = xs0 at *
    generalize (Y 0).s = ys0 at *
    rcases hx with h1 | ⟨h1, h2⟩ | ⟨h1, h2, h3⟩
    · have h1' : (xkind0 == ykind0) = false := by simpa using h1
      clear h1
      go_enter Tryd.func6, Tryd.ntmps6
      go_wp2
      go_quiet (fail)
      go_wp2
      go_ret
      exact ⟨ret_bool (by simp), _, rfl⟩
    · subst h1
      have h2' : (xn0 == yn0) = false := by simpa using h2
      clear h2
      go_enter Tryd.func6, Tryd.ntmps6
      go_wp2
      go_quiet (fail)
      go_wp2
      go_ret
      exact ⟨ret_bool (by simp), _, rfl⟩
    · subst h1
      subst h2
      go_enter Tryd.func6, Tryd.ntmps6
      go_wp2
      go_quiet (fail)
      go_wp2
      go_ret
      exact ⟨ret_bool (by simp), _, rfl⟩
  · have hx0 := itB_iff.1 hs0
    rw [← hx0] at f0 f1 f2
    clear hs0 hx0
    cases both
    · go_enter Tryd.func6, Tryd.ntmps6
      go_wp2
      go_quiet (fail)
      go_wp2
      go_ret
      exact ⟨ret_bool (by simp), _, rfl⟩
    · cases hs1 : itB (X 1) (Y 1)
      · have hx := itB_no hs1
        clear hs1
        generalize (X 1).kind = xkind1 at *
        generalize (Y 1).kind = ykind1 at *
        generalize (X 1).n = xn1 at *
        generalize (Y 1).n = yn1 at *
        generalize (X 1).s = xs1 at *
        generalize (Y 1).s = ys1 at *
        rcases hx with h1 | ⟨h1, h2⟩ | ⟨h1, h2, h3⟩
        · have h1' : (xkind1 == ykind1) = false := by simpa using h1
          clear h1
          go_enter Tryd.func6, Tryd.ntmps6
          go_wp2
          go_quiet (fail)
          go_wp2
          go_ret
          exact ⟨ret_bool (by simp), _, rfl⟩
        · subst h1
          have h2' : (xn1 == yn1) = false := by simpa using h2
          clear h2
          go_enter Tryd.func6, Tryd.ntmps6
          go_wp2
          go_quiet (fail)
          go_wp2
          go_ret
          exact ⟨ret_bool (by simp), _, rfl⟩
        · subst h1
          subst h2
          go_enter Tryd.func6, Tryd.ntmps6
          go_wp2
          go_quiet (fail)
          go_wp2
          go_ret
          exact ⟨ret_bool (by simp), _, rfl⟩
      · have hx1 := itB_iff.1 hs1
        rw [← hx1] at f3 f4 f5
        clear hs1 hx1
        go_enter Tryd.func6, Tryd.ntmps6
        go_wp2
        go_quiet (fail)
        go_wp2
        go_ret
        exact ⟨ret_bool (by simp), _, rfl⟩
set_option maxHeartbeats 1600000 in
theorem has2_is (u v : Value) (X Y : Nat → It) (g gs gr : Nat) (both : Bool) (w : World) (hu : ItsIs w u 2 X) (hv : ItsIs w v 2 Y) (hg : w.cell? ⟨g, 0, none⟩ = some (.bool both)) (hs : w.cell? ⟨gs, 0, none⟩ = some (.func (.func 6) #[] #[.pointer (some ⟨g, 0, none⟩)])) (hr : w.cell? ⟨gr, 0, none⟩ = some u) :
    Calls Tryd.prog 8 #[v, .pointer (some ⟨gs, 0, none⟩), .pointer (some ⟨gr, 0, none⟩)] w fun e w' => e = .returned (.bool (itB (X 0) (Y 0) && (!both || itB (X 1) (Y 1)))) ∧ ∃ q, w' = w.drewN q := by
  have C : Hid (∀ q, Calls Tryd.prog 6 #[u, v, .pointer (some ⟨g, 0, none⟩)] (w.drewN q) fun e w' => e = .returned (.bool (itB (X 0) (Y 0) && (!both || itB (X 1) (Y 1)))) ∧ ∃ q', w' = (w.drewN q).drewN q') := fun q => same_is u v X Y g both _ (its_drawn hu q) (its_drawn hv q) ((drawn_keep2 rfl).trans hg)
  obtain ⟨a, cap, rfl, _⟩ := hu
  obtain ⟨a', cap', rfl, _⟩ := hv
  go_enter Tryd.func8, Tryd.ntmps8
  go_wp2_with fail
  refine (C.out 0).mono ?_
  rintro e w1 ⟨rfl, q, rfl⟩
  go_wp2_with fail
  go_ret
  exact ⟨ret_bool (by simp), _, rfl⟩
set_option maxHeartbeats 1600000 in
theorem has3_is (u v : Value) (X Y : Nat → It) (g gs gr : Nat) (both : Bool) (w : World) (hu : ItsIs w u 2 X) (hv : ItsIs w v 2 Y) (hg : w.cell? ⟨g, 0, none⟩ = some (.bool both)) (hs : w.cell? ⟨gs, 0, none⟩ = some (.func (.func 6) #[] #[.pointer (some ⟨g, 0, none⟩)])) (hr : w.cell? ⟨gr, 0, none⟩ = some u) :
    Calls Tryd.prog 9 #[v, .pointer (some ⟨gs, 0, none⟩), .pointer (some ⟨gr, 0, none⟩)] w fun e w' => e = .returned (.bool (itB (X 0) (Y 0) && (!both || itB (X 1) (Y 1)))) ∧ ∃ q, w' = w.drewN q := by
  have C : Hid (∀ q, Calls Tryd.prog 6 #[u, v, .pointer (some ⟨g, 0, none⟩)] (w.drewN q) fun e w' => e = .returned (.bool (itB (X 0) (Y 0) && (!both || itB (X 1) (Y 1)))) ∧ ∃ q', w' = (w.drewN q).drewN q') := fun q => same_is u v X Y g both _ (its_drawn hu q) (its_drawn hv q) ((drawn_keep2 rfl).trans hg)
  obtain ⟨a, cap, rfl, _⟩ := hu
  obtain ⟨a', cap', rfl, _⟩ := hv
  go_enter Tryd.func9, Tryd.ntmps9
  go_wp2_with fail
  refine (C.out 0).mono ?_
  rintro e w1 ⟨rfl, q, rfl⟩
  go_wp2_with fail
  go_ret
  exact ⟨ret_bool (by simp), _, rfl⟩
end Go.Proofs.YtieoefalngioiaaDoor
