/-
  CONTRACTS of package axes: the small functions of a walk.
-/
import Derived.Test.YtnfljohddpadhaaDoorStKept
import Derived.Deep.QuietTactic
import Derived.BigQuiet
set_option linter.unusedVariables false
namespace Go.Proofs.YtnfljohddpadhaaDoor
set_option maxRecDepth 100000
open Go.RowKit Go.WideShapes

theorem hidS {p : Prop} (h : p) : Hid p := h
/-- the nodes of a walk -/
structure Wk (w : World) (la : Option Addr) (lb lo N lcap : Nat) (E : Nat → Nd) : Prop where
  la : 0 < N → la = some ⟨lb, lo, none⟩
  n : N ≤ 100000
  cap : N ≤ lcap
  max : lcap ≤ maxLen
  lt : 0 < N → lb < w.heap.size
  at_ : NdsAt w lb lo N E
theorem Wk.blk {w w' : World} {la : Option Addr} {lb lo N lcap : Nat} {E : Nat → Nd} (h : Wk w la lb lo N lcap E) (hz : w.heap.size ≤ w'.heap.size) (hb : lb < w.heap.size → w'.heap[lb]? = w.heap[lb]?) : Wk w' la lb lo N lcap E := by
  refine ⟨h.la, h.n, h.cap, h.max, fun h0 => Nat.lt_of_lt_of_le (h.lt h0) hz, ?_⟩
  by_cases h0 : 0 < N
  · exact h.at_.blk (hb (h.lt h0))
  · exact fun i hi => by omega
theorem Wk.keep {w w' : World} {la : Option Addr} {lb lo N lcap : Nat} {E : Nat → Nd} {X : Nat → Prop} (h : Wk w la lb lo N lcap E) (hk : Kept X w w') (hX : ¬ X lb) : Wk w' la lb lo N lcap E :=
  h.blk hk.size (fun hl => hk.block lb hl hX)
theorem Wk.below {w w' : World} {la : Option Addr} {lb lo N lcap : Nat} {E : Nat → Nd} (h : Wk w la lb lo N lcap E) (hk : Below w.heap.size w w') : Wk w' la lb lo N lcap E :=
  h.blk hk.size (fun hl => hk.block lb hl)

set_option maxHeartbeats 800000 in
theorem last_is (la : Option Addr) (lb lo N lcap : Nat) (E : Nat → Nd) (ca : Option Addr) (K ccap M : Nat) (n : Nat) (w : World) (t : Tr E N) (hw : Wk w la lb lo N lcap E) (hn : n < N) :
    Calls Tryd.prog 29 #[.agg #[.slice la N lcap, .slice ca K ccap, .map (some M)], .int .i64 n] w fun e w' => e = .returned (.int .i64 ((n + zN E n : Nat) : Int)) ∧ Below w.heap.size w w' := by
  obtain ⟨q1, q2, q3, q4, q5, q6⟩ := hw
  obtain rfl := q1 (by omega)
  obtain ⟨d0, d1, d2, d3, d4, d5⟩ := q6 n hn
  obtain ⟨s1, s2⟩ := t.sz n hn
  have hlb := q5 (by omega)
  have hni : (n : Int) < (N : Int) := by omega
  unfold maxLen at q4
  rw [s1] at d3
  go_enter Tryd.func29, Tryd.ntmps29
  go_wp2
  go_ret
  exact ⟨ret_int (by omega), (Below.refl _ _).alloc (Nat.le_refl _) _⟩
set_option maxHeartbeats 800000 in
theorem see_is (la : Option Addr) (lb lo N lcap : Nat) (E : Nat → Nd) (ca : Option Addr) (K ccap M : Nat) (n : Nat) (S : Nat → Prop) (w : World) (hn : (n : Int) ≤ 9223372036854775807) (hS : Seen w M S) :
    Calls Tryd.prog 32 #[.agg #[.slice la N lcap, .slice ca K ccap, .map (some M)], .int .i64 n] w fun e w' => e = .returned (.tuple #[]) ∧ Seen w' M (fun i => S i ∨ i = n) ∧ Kept (fun c => c = M) w w' := by
  have hlt := hS.lt
  have HS1 : Hid (IMap (w.alloc (.cells #[.slice la N lcap, .slice ca K ccap, .map (some M)] 39)) M (setV S)) := IMap.alloc hS _
  obtain ⟨w1, hu, hI, hT⟩ := IMap.put (t := 37) HS1.out (x := (n : Int)) ⟨by omega, hn⟩ (.agg #[]) Tryd.underlying37
  rw [setV_put] at hI
  have HI : Hid (IMap w1 M (setV fun i => S i ∨ i = n)) := hI
  have HT : Hid (TurnedM (w.alloc (.cells #[.slice la N lcap, .slice ca K ccap, .map (some M)] 39)) w1 M) := hT
  clear hI hT hS
  go_enter Tryd.func32, Tryd.ntmps32
  go_wp2
  first | go_end0 | refine bodyPost_ret (results_none rfl _ _ _) rfl ?_
  exact ⟨rfl, HI.out, (Kept.alloc (Kept.refl _ _) _).trans (Kept.of_turned HT.out rfl)⟩
set_option maxHeartbeats 800000 in
theorem seeOther_is (la : Option Addr) (lb lo N lcap : Nat) (E : Nat → Nd) (ca : Option Addr) (K ccap M : Nat) (n : Nat) (S : Nat → Prop) (w : World) (t : Tr E N) (hw : Wk w la lb lo N lcap E) (hn : n < N) (hS : Seen w M S) :
    Calls Tryd.prog 30 #[.agg #[.slice la N lcap, .slice ca K ccap, .map (some M)], .int .i64 n] w fun e w' => e = .returned (.tuple #[]) ∧ Seen w' M (fun i => S i ∨ (i = n ∧ (E i).kind ≠ 2)) ∧ Kept (fun c => c = M) w w' := by
  have hlt := hS.lt
  have hS1 : Seen (w.alloc (.cells #[.slice la N lcap, .slice ca K ccap, .map (some M)] 39)) M S := IMap.alloc hS _
  have CS := hidS (see_is la lb lo N lcap E ca K ccap M n S _ (by have := hw.n; omega) hS1)
  have HS1 := hidS hS1
  obtain ⟨q1, q2, q3, q4, q5, q6⟩ := hw
  obtain rfl := q1 (by omega)
  obtain ⟨d0, d1, d2, d3, d4, d5⟩ := q6 n hn
  obtain ⟨s1, s2⟩ := t.sz n hn
  have hlb := q5 (by omega)
  have hni : (n : Int) < (N : Int) := by omega
  unfold maxLen at q4
  rw [s1] at d3
  by_cases hk : (E n).kind = 2
  · have hk' : ((E n).kind == 2) = true := by simpa using hk
    rw [hk] at d0
    clear hS hS1
    go_enter Tryd.func30, Tryd.ntmps30
    go_wp2_with fail
    first | go_end0 | refine bodyPost_ret (results_none rfl _ _ _) rfl ?_
    exact ⟨rfl, Seen.congr HS1.out (fun i => ⟨.inl, fun h => h.elim id (fun e => by obtain ⟨rfl, e2⟩ := e; exact absurd hk e2)⟩), Kept.alloc (Kept.refl _ _) _⟩
  · have hk' : ((E n).kind == 2) = false := by simpa using hk
    clear hS hS1
    go_enter Tryd.func30, Tryd.ntmps30
    go_wp2_with (go_at_call 32; refine CS.out.mono ?_; rintro e w1 ⟨rfl, hs1, hk1⟩; have HS2 := hidS hs1; have HK2 := hidS hk1; clear hs1 hk1)
    first | go_end0 | refine bodyPost_ret (results_none rfl _ _ _) rfl ?_
    exact ⟨rfl, Seen.congr HS2.out (fun i => ⟨fun h => h.elim .inl (fun e => .inr ⟨e, by rw [e]; exact hk⟩), fun h => h.elim .inl (fun e => .inr e.1)⟩), (Kept.alloc (Kept.refl _ _) _).trans HK2.out⟩
set_option maxHeartbeats 800000 in
theorem seeAttr_is (la : Option Addr) (lb lo N lcap : Nat) (E : Nat → Nd) (ca : Option Addr) (K ccap M : Nat) (n : Nat) (S : Nat → Prop) (w : World) (t : Tr E N) (hw : Wk w la lb lo N lcap E) (hn : n < N) (hS : Seen w M S) :
    Calls Tryd.prog 41 #[.agg #[.slice la N lcap, .slice ca K ccap, .map (some M)], .int .i64 n] w fun e w' => e = .returned (.tuple #[]) ∧ Seen w' M (fun i => S i ∨ (i = n ∧ (E i).kind = 2)) ∧ Kept (fun c => c = M) w w' := by
  have hlt := hS.lt
  have hS1 : Seen (w.alloc (.cells #[.slice la N lcap, .slice ca K ccap, .map (some M)] 39)) M S := IMap.alloc hS _
  have CS := hidS (see_is la lb lo N lcap E ca K ccap M n S _ (by have := hw.n; omega) hS1)
  have HS1 := hidS hS1
  obtain ⟨q1, q2, q3, q4, q5, q6⟩ := hw
  obtain rfl := q1 (by omega)
  obtain ⟨d0, d1, d2, d3, d4, d5⟩ := q6 n hn
  obtain ⟨s1, s2⟩ := t.sz n hn
  have hlb := q5 (by omega)
  have hni : (n : Int) < (N : Int) := by omega
  unfold maxLen at q4
  rw [s1] at d3
  by_cases hk : (E n).kind = 2
  · have hk' : ((E n).kind == 2) = true := by simpa using hk
    rw [hk] at d0
    clear hS hS1
    go_enter Tryd.func41, Tryd.ntmps41
    go_wp2_with (go_at_call 32; refine CS.out.mono ?_; rintro e w1 ⟨rfl, hs1, hk1⟩; have HS2 := hidS hs1; have HK2 := hidS hk1; clear hs1 hk1)
    first | go_end0 | refine bodyPost_ret (results_none rfl _ _ _) rfl ?_
    exact ⟨rfl, Seen.congr HS2.out (fun i => ⟨fun h => h.elim .inl (fun e => .inr ⟨e, by rw [e]; exact hk⟩), fun h => h.elim .inl (fun e => .inr e.1)⟩), (Kept.alloc (Kept.refl _ _) _).trans HK2.out⟩
  · have hk' : ((E n).kind == 2) = false := by simpa using hk
    clear hS hS1
    go_enter Tryd.func41, Tryd.ntmps41
    go_wp2_with fail
    first | go_end0 | refine bodyPost_ret (results_none rfl _ _ _) rfl ?_
    exact ⟨rfl, Seen.congr HS1.out (fun i => ⟨.inl, fun h => h.elim id (fun e => by obtain ⟨rfl, e2⟩ := e; exact absurd e2 hk)⟩), Kept.alloc (Kept.refl _ _) _⟩
end Go.Proofs.YtnfljohddpadhaaDoor
