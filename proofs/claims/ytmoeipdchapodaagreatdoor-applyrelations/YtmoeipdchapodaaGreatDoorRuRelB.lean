/-
  CONTRACTS: a text beside a number (package run's asOther), truth values, what is said of an order.
-/
import Derived.Test.YtmoeipdchapodaaGreatDoorRuVl
import Derived.Test.YtmoeipdchapodaaGreatDoorRlCmp
import Derived.Lib.AtoiErrMem
set_option linter.unusedVariables false
namespace Go.Proofs.YtmoeipdchapodaaGreatDoor
set_option maxRecDepth 100000
open Go.RowKit Go.WideShapes

theorem growB (w : World) (n : Nat) (os : Array Obj) : Below w.heap.size w (Go.Sort.grow (w.drewN n) os) := ⟨rfl, rfl, rfl, by simp [Go.Sort.grow, World.drewN], fun k hk => by simp only [Go.Sort.grow, World.drewN]; rw [Array.getElem?_append_left hk]⟩
/-- what is asked of the world: the tables, and the error that strconv tells -/
structure RelEnv (w : World) : Prop where
  run : RunEnv w
  pow : ∀ W, Below w.heap.size w W → Lib.TabIs Tryz.prog W "internal/strconv.uint64pow10" .u64 Lib.pow10Tab
  err : ∃ ev, (∀ W, Below w.heap.size w W → W.cell? ⟨5, 0, none⟩ = some ev) ∧ (ev = .nilIface ∨ ∃ te pe, ev = .iface te pe)
theorem RelEnv.below {w w' : World} (h : RelEnv w) (hb : Below w.heap.size w w') : RelEnv w' := ⟨h.run.below hb, fun W hW => h.pow W (hb.trans (hW.mono hb.size)), by
  obtain ⟨ev, h1, h2⟩ := h.err
  exact ⟨ev, fun W hW => h1 W (hb.trans (hW.mono hb.size)), h2⟩⟩
def numT (n : Int) : ByteArray := ⟨(Lib.itoa n).toArray⟩
theorem nine {n : Int} (h : -4 ≤ n ∧ n ≤ 4) : n = -4 ∨ n = -3 ∨ n = -2 ∨ n = -1 ∨ n = 0 ∨ n = 1 ∨ n = 2 ∨ n = 3 ∨ n = 4 := by omega
theorem numT_back {n : Int} (h : -4 ≤ n ∧ n ≤ 4) : Lib.atoi (numT n).data.toList = some n ∧ (numT n).size ≤ 2 ∧ textF (numT n) = 0 := by
  rcases nine h with rfl | rfl | rfl | rfl | rfl | rfl | rfl | rfl | rfl <;> decide +kernel
set_option maxHeartbeats 1600000 in
theorem inB_is (n : Int) (h : -4 ≤ n ∧ n ≤ 4) (w : World) : Calls Tryz.prog 186 #[.int .i64 n] w fun e w' => e = .returned (.bool true) ∧ w' = w := by
  obtain ⟨h1, h2⟩ := h
  have k1 : -1099511627776 ≤ n := by omega
  have k2 : n ≤ 1099511627776 := by omega
  go_enter Tryz.func186, Tryz.ntmps186
  go_wp2
  go_ret
  exact ⟨ret_boolC (by simp), rfl⟩
set_option maxHeartbeats 3200000 in
theorem parse_num (n : Int) (h : -4 ≤ n ∧ n ≤ 4) (w : World) (hw : RelEnv w) : Calls Tryz.prog 138 #[.string (numT n)] w fun e w' => e = .returned (.tuple #[.int .i64 n, .bool true]) ∧ Below w.heap.size w w' := by
  obtain ⟨b1, b2, _⟩ := numT_back h
  have CA : Hid (∀ W, Calls Tryz.prog 185 #[.string (numT n)] W fun e w' => e = .returned (.tuple #[.int .i64 n, .nilIface]) ∧ Below W.heap.size W w') := fun W => (Tryz.strconv_Atoi (numT n) n (by omega) b1 W).mono fun e w' ⟨he, t, ht⟩ => ⟨he, by rw [ht]; exact Lib.bytesWorld_below _ _ _⟩
  have CI : Hid (∀ W, Below w.heap.size w W → Calls Tryz.prog 136 #[.int .i64 n] W fun e w' => e = .returned (.string (numT n)) ∧ Below W.heap.size W w') := fun W hW => (Tryz.strconv_Itoa n (by omega) (by omega) W (hw.pow W hW)).mono fun e w' ⟨he, k, os, ht⟩ => ⟨he, by rw [ht]; exact growB _ _ _⟩
  have CB : Hid (∀ W, Calls Tryz.prog 186 #[.int .i64 n] W fun e w' => e = .returned (.bool true) ∧ w' = W) := fun W => inB_is n h W
  have hs : (numT n).size ≤ 14 := by omega
  clear b1 b2 hw h
  generalize numT n = s at *
  go_enter Tryz.func138, Tryz.ntmps138
  go_wp2_with (first
    | (go_at_call 185; refine (CA.out _).mono ?_; rintro e w1 ⟨rfl, hb1⟩; have HB1 := hidR hb1; clear hb1)
    | (go_at_call 186; refine (CB.out _).mono ?_; rintro e w2 ⟨rfl, hw2⟩; obtain rfl := hw2.symm)
    | (go_at_call 136; refine (CI.out _ HB1.out).mono ?_; rintro e w3 ⟨rfl, hb3⟩; have HB3 := hidR (HB1.out.trans (hb3.mono HB1.out.size)); clear hb3))
  go_ret2
  exact ⟨by simp, HB3.out⟩
set_option maxHeartbeats 3200000 in
theorem parse_one (w : World) (hw : RelEnv w) : Calls Tryz.prog 138 #[.string ⟨#[111, 110, 101]⟩] w fun e w' => e = .returned (.tuple #[.int .i64 0, .bool false]) ∧ Below w.heap.size w w' := by
  obtain ⟨ev, h1, h2⟩ := hw.err
  have CA : Hid (Calls Tryz.prog 185 #[.string ⟨#[111, 110, 101]⟩] w fun e w' => ∃ te pe, e = .returned (.tuple #[.int .i64 0, .iface te pe]) ∧ Below w.heap.size w w') := (Tryz.strconv_Atoi_err ⟨#[111, 110, 101]⟩ (by decide) (by decide +kernel) ev w (h1 w (Below.refl _ _)) h2).mono fun e w' ⟨N, he, _, _, hb⟩ => ⟨_, _, he, hb⟩
  clear h1 h2 hw
  go_enter Tryz.func138, Tryz.ntmps138
  go_wp2_with (go_at_call 185; refine CA.out.mono ?_; rintro e w1 ⟨te, pe, rfl, hb1⟩; have HB1 := hidR hb1; clear hb1)
  go_ret2
  exact ⟨rfl, HB1.out⟩
set_option maxHeartbeats 1600000 in
theorem itoa_is (n : Int) (h : 0 ≤ n ∧ n ≤ 4) (w : World) : Calls Tryz.prog 12 #[.int .i64 n] w fun e w' => e = .returned (.string (numT n)) ∧ w' = w := by
  have h5 : n = 0 ∨ n = 1 ∨ n = 2 ∨ n = 3 ∨ n = 4 := by omega
  rcases h5 with rfl | rfl | rfl | rfl | rfl
  all_goals
    go_enter Tryz.func12, Tryz.ntmps12
    go_wp2
    go_ret
    exact ⟨congrArg (fun s => Ending.returned (Value.string s)) (by decide +kernel : Utf8.encode _ = numT _), rfl⟩
theorem neg_text {n : Int} (h : -4 ≤ n ∧ n < 0) : (⟨#[45]⟩ : ByteArray) ++ numT (-n) = numT n := by
  have h5 : n = -4 ∨ n = -3 ∨ n = -2 ∨ n = -1 := by omega
  rcases h5 with rfl | rfl | rfl | rfl <;> decide +kernel
set_option maxHeartbeats 1600000 in
theorem itoaSigned_is (n : Int) (h : -4 ≤ n ∧ n ≤ 4) (w : World) : Calls Tryz.prog 9 #[.int .i64 n] w fun e w' => e = .returned (.string (numT n)) ∧ w' = w := by
  obtain ⟨h1, h2⟩ := h
  by_cases hn : n < 0
  · have CI : Hid (Calls Tryz.prog 12 #[.int .i64 (-n)] w fun e w' => e = .returned (.string (numT (-n))) ∧ w' = w) := itoa_is (-n) (by omega) w
    have HN : Hid ((⟨#[45]⟩ : ByteArray) ++ numT (-n) = numT n) := neg_text ⟨h1, hn⟩
    have hs : ¬ 9223372036854775807 < 1 + (numT (-n)).size := by have := (numT_back (n := -n) (by omega)).2.1; omega
    generalize numT (-n) = s at *
    go_enter Tryz.func9, Tryz.ntmps9
    go_wp2_with (go_at_call 12; refine CI.out.mono ?_; rintro e w1 ⟨rfl, hw1⟩; obtain rfl := hw1.symm)
    go_ret
    exact ⟨by rw [HN.out]; rfl, rfl⟩
  · have CI : Hid (Calls Tryz.prog 12 #[.int .i64 n] w fun e w' => e = .returned (.string (numT n)) ∧ w' = w) := itoa_is n (by omega) w
    go_enter Tryz.func9, Tryz.ntmps9
    go_wp2_with (go_at_call 12; refine CI.out.mono ?_; rintro e w1 ⟨rfl, hw1⟩; obtain rfl := hw1.symm)
    go_ret
    exact ⟨rfl, rfl⟩
set_option maxHeartbeats 800000 in
theorem words_is (s : ByteArray) (w : World) : Calls Tryz.prog 8 #[.string s] w fun e w' => e = .returned (.agg #[.int .i64 3, .int .i64 0, .string s]) ∧ w' = w.alloc (.cells #[.int .i64 3, .int .i64 0, .string s] 24) := by
  go_enter Tryz.func8, Tryz.ntmps8
  go_wp2
  exact bodyPost_ret (v := .agg #[.int .i64 3, .int .i64 0, .string s]) (by simp [results, Tryz.results8, go_sem]) rfl ⟨rfl, rfl⟩
end Go.Proofs.YtmoeipdchapodaaGreatDoor
set_option linter.unusedVariables false
namespace Go.Proofs.YtmoeipdchapodaaGreatDoor
set_option maxRecDepth 100000
open Go.RowKit Go.WideShapes

def txtI (s : ByteArray) : It := ⟨3, 0, s⟩
def boolI (b : Bool) : It := ⟨4, if b then 1 else 0, ⟨#[]⟩⟩
set_option maxHeartbeats 1600000 in
theorem other_same (k n : Int) (s : ByteArray) (k' n' : Int) (s' : ByteArray) (w : World) (h : ¬ k = 3) : Calls Tryz.prog 103 #[.agg #[.int .i64 k, .int .i64 n, .string s], .agg #[.int .i64 k', .int .i64 n', .string s']] w fun e w' => e = .returned (.agg #[.int .i64 k, .int .i64 n, .string s]) ∧ Below w.heap.size w w' := by
  have h1 : (k == 3) = false := by simpa using h
  go_enter Tryz.func103, Tryz.ntmps103
  go_wp2
  refine bodyPost_ret (v := .agg #[.int .i64 k, .int .i64 n, .string s]) (by simp [results, Tryz.results103, go_sem]) rfl ⟨rfl, ?_⟩
  (focus (repeat (first | exact Below.refl _ _ | exact Hid.out (by assumption) | refine Below.setCell ?_ (by first | omega | (simp <;> omega)) _ | refine Below.alloc ?_ (by first | omega | (simp <;> omega)) _)))
set_option maxHeartbeats 3200000 in
theorem other_num (m : Int) (hm : -4 ≤ m ∧ m ≤ 4) (n' : Int) (s' : ByteArray) (w : World) (hw : RelEnv w) : Calls Tryz.prog 103 #[.agg #[.int .i64 3, .int .i64 0, .string (numT m)], .agg #[.int .i64 2, .int .i64 n', .string s']] w fun e w' => e = .returned (.agg #[.int .i64 2, .int .i64 m, .string ⟨#[]⟩]) ∧ Below w.heap.size w w' := by
  have CP : Hid (∀ W, Below w.heap.size w W → Calls Tryz.prog 138 #[.string (numT m)] W fun e w' => e = .returned (.tuple #[.int .i64 m, .bool true]) ∧ Below W.heap.size W w') := fun W hW => parse_num m hm W (hw.below hW)
  have CI : Hid (∀ W, Calls Tryz.prog 49 #[.int .i64 m] W fun e w' => e = .returned (.agg #[.int .i64 2, .int .i64 m, .string ⟨#[]⟩]) ∧ Below W.heap.size W w') := fun W => intItem_is m W
  generalize numT m = t at *
  clear hw hm
  go_enter Tryz.func103, Tryz.ntmps103
  go_wp2_with (first
    | (go_at_call 138; refine (CP.out _ ?_).mono ?_; (· (focus (repeat (first | exact Below.refl _ _ | exact Hid.out (by assumption) | refine Below.setCell ?_ (by first | omega | (simp <;> omega)) _ | refine Below.alloc ?_ (by first | omega | (simp <;> omega)) _)))); rintro e w1 ⟨rfl, hb1⟩; have HB1 : Hid (Below w.heap.size w w1) := Below.trans (by (focus (repeat (first | exact Below.refl _ _ | exact Hid.out (by assumption) | refine Below.setCell ?_ (by first | omega | (simp <;> omega)) _ | refine Below.alloc ?_ (by first | omega | (simp <;> omega)) _)))) (hb1.mono (by first | omega | (simp <;> omega))); have HA1 : Hid (w1.heap[w.heap.size + 1 + 1]? = some (.cells #[.int .i64 0, .int .i64 0, .string ⟨#[]⟩] 24)) := (hb1.block _ (by first | omega | (simp <;> omega))).trans (alloc_newN (by simp)); have hz1 := HB1.out.size; have hy1 : w.heap.size + 1 + 1 < w1.heap.size := (Array.getElem?_eq_some_iff.1 HA1.out).1; clear hb1)
    | (go_at_call 49; refine (CI.out _).mono ?_; rintro e w2 ⟨rfl, hb2⟩; have HB2 : Hid (Below w.heap.size w w2) := HB1.out.trans (hb2.mono hz1); have HA2 := hidR (blk_below hb2 hy1 HA1.out); obtain ⟨q0, q1, q2, q3, q4, q5, q6⟩ := blk3 HA2.out; clear hb2))
  refine bodyPost_ret (v := .agg #[.int .i64 2, .int .i64 m, .string ⟨#[]⟩]) (by simp [results, Tryz.results103, go_sem, q0, q1, q2]) rfl ⟨rfl, ?_⟩
  (focus (repeat (first | exact Below.refl _ _ | exact Hid.out (by assumption) | refine Below.setCell ?_ (by first | omega | (simp <;> omega)) _ | refine Below.alloc ?_ (by first | omega | (simp <;> omega)) _)))
set_option maxHeartbeats 3200000 in
theorem other_one (n' : Int) (s' : ByteArray) (w : World) (hw : RelEnv w) : Calls Tryz.prog 103 #[.agg #[.int .i64 3, .int .i64 0, .string ⟨#[111, 110, 101]⟩], .agg #[.int .i64 2, .int .i64 n', .string s']] w fun e w' => e = .returned (.agg #[.int .i64 3, .int .i64 0, .string ⟨#[111, 110, 101]⟩]) ∧ Below w.heap.size w w' := by
  have CP : Hid (∀ W, Below w.heap.size w W → Calls Tryz.prog 138 #[.string ⟨#[111, 110, 101]⟩] W fun e w' => e = .returned (.tuple #[.int .i64 0, .bool false]) ∧ Below W.heap.size W w') := fun W hW => parse_one W (hw.below hW)
  clear hw
  go_enter Tryz.func103, Tryz.ntmps103
  go_wp2_with (go_at_call 138; refine (CP.out _ ?_).mono ?_; (· (focus (repeat (first | exact Below.refl _ _ | exact Hid.out (by assumption) | refine Below.setCell ?_ (by first | omega | (simp <;> omega)) _ | refine Below.alloc ?_ (by first | omega | (simp <;> omega)) _)))); rintro e w1 ⟨rfl, hb1⟩; have HB1 : Hid (Below w.heap.size w w1) := Below.trans (by (focus (repeat (first | exact Below.refl _ _ | exact Hid.out (by assumption) | refine Below.setCell ?_ (by first | omega | (simp <;> omega)) _ | refine Below.alloc ?_ (by first | omega | (simp <;> omega)) _)))) (hb1.mono (by first | omega | (simp <;> omega))); have HA1 : Hid (w1.heap[w.heap.size + 1 + 1]? = some (.cells #[.int .i64 0, .int .i64 0, .string ⟨#[]⟩] 24)) := (hb1.block _ (by first | omega | (simp <;> omega))).trans (alloc_newN (by simp)); have HX1 : Hid (w1.heap[w.heap.size]? = some (.cells #[.int .i64 3, .int .i64 0, .string ⟨#[111, 110, 101]⟩] 24)) := (hb1.block _ (by first | omega | (simp <;> omega))).trans (alloc_old (alloc_old (alloc_newN rfl))); have hz1 := HB1.out.size; obtain ⟨q0, q1, q2, q3, q4, q5, q6⟩ := blk3 HA1.out; obtain ⟨x0, x1, x2, _⟩ := blk3 HX1.out; clear hb1)
  refine bodyPost_ret (v := .agg #[.int .i64 3, .int .i64 0, .string ⟨#[111, 110, 101]⟩]) (by simp [results, Tryz.results103, go_sem, q0, q1, q2]) rfl ⟨rfl, ?_⟩
  (focus (repeat (first | exact Below.refl _ _ | exact Hid.out (by assumption) | refine Below.setCell ?_ (by first | omega | (simp <;> omega)) _ | refine Below.alloc ?_ (by first | omega | (simp <;> omega)) _)))
set_option maxHeartbeats 800000 in
theorem boolItem_is (b : Bool) (w : World) : Calls Tryz.prog 53 #[.bool b] w fun e w' => e = .returned (.agg #[.int .i64 (boolI b).kind, .int .i64 (boolI b).n, .string (boolI b).s]) ∧ Below w.heap.size w w' := by
  cases b
  all_goals
    go_enter Tryz.func53, Tryz.ntmps53
    go_wp2
  · refine bodyPost_ret (v := .agg #[.int .i64 4, .int .i64 0, .string ⟨#[]⟩]) (by simp [results, Tryz.results53, go_sem]) rfl ⟨rfl, ?_⟩
    (focus (repeat (first | exact Below.refl _ _ | exact Hid.out (by assumption) | refine Below.setCell ?_ (by first | omega | (simp <;> omega)) _ | refine Below.alloc ?_ (by first | omega | (simp <;> omega)) _)))
  · refine bodyPost_ret (v := .agg #[.int .i64 4, .int .i64 1, .string ⟨#[]⟩]) (by simp [results, Tryz.results53, go_sem]) rfl ⟨rfl, ?_⟩
    (focus (repeat (first | exact Below.refl _ _ | exact Hid.out (by assumption) | refine Below.setCell ?_ (by first | omega | (simp <;> omega)) _ | refine Below.alloc ?_ (by first | omega | (simp <;> omega)) _)))
/-- what a function says of an order -/
def SaysOk (g : FuncId) (p : Int → Bool) : Prop := ∀ W c, -1 ≤ c → c ≤ 1 → Calls Tryz.prog g #[.int .i64 c] W fun e w' => e = .returned (.bool (p c)) ∧ w' = W
set_option maxHeartbeats 800000 in
theorem says_9 : SaysOk 59 (fun c => c == 0) := by
  intro W c h1 h2
  obtain rfl | rfl | rfl : c = -1 ∨ c = 0 ∨ c = 1 := by omega
  all_goals
    go_enter Tryz.func59, Tryz.ntmps59
    go_wp2
    go_ret
    exact ⟨rfl, rfl⟩
set_option maxHeartbeats 800000 in
theorem says_10 : SaysOk 60 (fun c => !(c == 0)) := by
  intro W c h1 h2
  obtain rfl | rfl | rfl : c = -1 ∨ c = 0 ∨ c = 1 := by omega
  all_goals
    go_enter Tryz.func60, Tryz.ntmps60
    go_wp2
    go_ret
    exact ⟨rfl, rfl⟩
set_option maxHeartbeats 800000 in
theorem says_11 : SaysOk 61 (fun c => decide (c < 0)) := by
  intro W c h1 h2
  obtain rfl | rfl | rfl : c = -1 ∨ c = 0 ∨ c = 1 := by omega
  all_goals
    go_enter Tryz.func61, Tryz.ntmps61
    go_wp2
    go_ret
    exact ⟨rfl, rfl⟩
set_option maxHeartbeats 800000 in
theorem says_12 : SaysOk 62 (fun c => decide (c ≤ 0)) := by
  intro W c h1 h2
  obtain rfl | rfl | rfl : c = -1 ∨ c = 0 ∨ c = 1 := by omega
  all_goals
    go_enter Tryz.func62, Tryz.ntmps62
    go_wp2
    go_ret
    exact ⟨rfl, rfl⟩
set_option maxHeartbeats 800000 in
theorem says_13 : SaysOk 63 (fun c => decide (0 < c)) := by
  intro W c h1 h2
  obtain rfl | rfl | rfl : c = -1 ∨ c = 0 ∨ c = 1 := by omega
  all_goals
    go_enter Tryz.func63, Tryz.ntmps63
    go_wp2
    go_ret
    exact ⟨rfl, rfl⟩
set_option maxHeartbeats 800000 in
theorem says_14 : SaysOk 64 (fun c => decide (0 ≤ c)) := by
  intro W c h1 h2
  obtain rfl | rfl | rfl : c = -1 ∨ c = 0 ∨ c = 1 := by omega
  all_goals
    go_enter Tryz.func64, Tryz.ntmps64
    go_wp2
    go_ret
    exact ⟨rfl, rfl⟩
end Go.Proofs.YtmoeipdchapodaaGreatDoor
