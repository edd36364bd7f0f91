/-
  A LIST OF EVENTS THAT COMES IN, opened: what it reads as gives the events and where they lie. And Check, EventsFault at a list without events, or with too many.
-/
import Derived.Test.YtoifdcipialciaaDoorCheck
import Derived.Test.YtoifdcipialciaaDoorFault
import Derived.Deep.Strs
import Derived.Deep.Slices
import Derived.ProofKit
set_option linter.unusedVariables false
namespace Go.Proofs.YtoifdcipialciaaDoor
open Go.RowKit Go.ChangeShapes Go.WideShapes Go.Deep

theorem cells31 : Tryd.prog.cellsOf 31 = 3 := by kernel_rfl
theorem cells3 : Tryd.prog.cellsOf 3 = 1 := by kernel_rfl
theorem cells9 : Tryd.prog.cellsOf 9 = 1 := by kernel_rfl
theorem block_lt {w : World} {a : Addr} {v : Value} (h : w.cell? a = some v) : a.block < w.heap.size := by
  unfold World.cell? at h
  by_cases hb : a.block < w.heap.size
  · exact hb
  · rw [Array.getElem?_eq_none (by omega)] at h
    cases h

/-- one event in memory -/
theorem open_event {H : Type} {enc : TypeId × Value → H} {W : World} {n : Nat} {cs : List Value} {x : DataW H × List MemPlace} (h : DataW.trod enc Tryd.prog W 0 (fun _ => true) true n 31 cs = some x) :
    ∃ e : Ev, cs = [.int .i64 e.kind, .string e.name, .string e.value] ∧ e.name.size ≤ maxLen ∧ e.value.size ≤ maxLen := by
  obtain ⟨y0, y1, y2, m, rfl, hl, h0, h1, h2⟩ := trod_struct3 Tryd.underlying31 h
  rw [cells31] at hl
  match cs, hl with
  | [c0, c1, c2], _ =>
    simp only [cells3, cells9, List.drop_zero, List.drop_succ_cons, List.take_succ_cons, List.take_zero] at h0 h1 h2
    obtain ⟨k, e0, _, _⟩ := DataW.trod_int Tryd.underlying3 h0
    obtain ⟨nm, e1, _, s1⟩ := DataW.trod_string Tryd.underlying9 h1
    obtain ⟨v, e2, _, s2⟩ := DataW.trod_string Tryd.underlying9 h2
    simp only [List.cons.injEq, and_true] at e0 e1 e2
    subst e0 e1 e2
    exact ⟨⟨k, nm, v⟩, rfl, s1, s2⟩

theorem open_events {H : Type} {enc : TypeId × Value → H} {W : World} {fuel : Nat} {cs : List Value} {x : DataW H × List MemPlace} (h : DataW.trod enc Tryd.prog W 0 (fun _ => true) true fuel 23 cs = some x) :
    (cs = [.slice none 0 0]) ∨
    ∃ (a : Addr) (len cap : Nat) (E : Nat → Ev) (els sp : List (DataW H)), cs = [.slice (some a) len cap] ∧ len ≤ cap ∧ cap ≤ maxLen ∧ x.1 = .slice els sp ∧ els.length = len ∧ sp.length = cap - len ∧
      (0 < len → ∃ b off, a = ⟨b, off, none⟩ ∧ EvsAt W b off len E ∧ b < W.heap.size) ∧ ∀ i, i < len → (E i).name.size ≤ maxLen ∧ (E i).value.size ≤ maxLen := by
  rcases open_slice Tryd.underlying23 h with ⟨h1, _⟩ | ⟨a, len, cap, m, n, D, Pl, rfl, hb, hl, hm, hmm, rfl, hx⟩
  · exact .inl h1
  right
  simp only [if_true] at hmm
  subst hmm
  haveI : Inhabited Ev := ⟨⟨0, ⟨#[]⟩, ⟨#[]⟩⟩⟩
  obtain ⟨E, hE⟩ := choose_lt (α := Ev) (n := m) (p := fun i (e : Ev) => W.cells? 0 (a.add (i * 3)) 3 = some [.int .i64 e.kind, .string e.name, .string e.value] ∧ e.name.size ≤ maxLen ∧ e.value.size ≤ maxLen) (fun i hi => by
    obtain ⟨cs', h1, h2⟩ := hx i hi
    rw [cells31] at h1
    obtain ⟨e, rfl, s1, s2⟩ := open_event h2
    exact ⟨e, h1, s1, s2⟩)
  refine ⟨a, len, m, E, _, _, rfl, hl, hm, rfl, by simp, by simp, fun h0 => ?_, fun i hi => (hE i (by omega)).2⟩
  have hc : ∀ i, i < len → ∀ r, r < 3 → W.cell? (a.add (i * 3 + r)) = [Value.int .i64 (E i).kind, .string (E i).name, .string (E i).value][r]? := fun i hi r hr => by
    obtain ⟨_, _, h3⟩ := World.cells?_some (hE i (by omega)).1
    rw [← add_add]
    exact h3 r hr
  obtain ⟨b, off, spot⟩ := a
  have h00 := hc 0 h0 0 (by omega)
  have hspot : spot = none := by simpa [Addr.add] using World.cell?_spot h00
  subst hspot
  refine ⟨b, off, rfl, fun i hi => ?_, by simpa [Addr.add] using block_lt h00⟩
  have g0 := hc i hi 0 (by omega)
  have g1 := hc i hi 1 (by omega)
  have g2 := hc i hi 2 (by omega)
  rw [add_plain] at g0 g1 g2
  exact ⟨g0, g1, g2⟩

set_option maxHeartbeats 400000 in
theorem check_zero (a : Option Addr) (cap : Nat) (w : World) :
    Calls Tryd.prog 9 #[.slice a 0 cap] w fun e w' => e = .returned (.int .i64 5) ∧ Below w.heap.size w w' := by
  go_enter Tryd.func9, Tryd.ntmps9
  go_wp2
  go_loop [12] (fun i => i = .int .i64 0) (fun _ => 0)
  case atStart => rfl
  case round =>
    subst hrel
    go_wp2
    go_ret
    exact ⟨rfl, Below.refl _ _⟩
set_option maxHeartbeats 400000 in
theorem check_big (a : Option Addr) (n cap : Nat) (w : World) (hn : 400 < n) (hm : n ≤ maxLen) :
    Calls Tryd.prog 9 #[.slice a n cap] w fun e w' => e = .returned (.int .i64 1) ∧ Below w.heap.size w w' := by
  unfold maxLen at hm
  go_enter Tryd.func9, Tryd.ntmps9
  go_wp2
  go_ret
  exact ⟨rfl, Below.refl _ _⟩
theorem checkN_zero (E : Nat → Ev) : checkN E 0 = 5 := rfl
/-- Check, and the document's answer to it, at a list of events wherever it lies -/
theorem check_any (b off n cap : Nat) (E : Nat → Ev) (w : World) (hcap : n ≤ cap) (hm : cap ≤ maxLen) (henv : Env w) (hb0 : b < w.heap.size) (hE : EvsAt w b off n E)
    (hsz : ∀ i, i < n → (E i).name.size ≤ maxLen ∧ (E i).value.size ≤ maxLen) :
    Calls Tryd.prog 9 #[.slice (some ⟨b, off, none⟩) n cap] w fun e w' => e = .returned (.int .i64 (checkN E n)) ∧ Below w.heap.size w w' := by
  by_cases hn : 400 < n
  · rw [checkN_size hn]
    exact check_big _ n cap w hn (Nat.le_trans hcap hm)
  · exact check_some b off n cap E w (by omega) hcap henv hb0 hE hsz
end Go.Proofs.YtoifdcipialciaaDoor
