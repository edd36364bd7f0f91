/-
  CONTRACTS of the parser's see, mark, word, fail, miss.
-/
import Derived.Test.YteapocgpenokfaaGreatDoorPaBase
import Derived.Test.YteapocgpenokfaaGreatDoorRows
import Derived.Test.YteapocgpenokfaaGreatDoorProg
import Derived.ChangeSame
import Derived.Laws.Rows
import Derived.WalkKit
import Derived.WalkSpells
import Derived.WalkLawsBesides
import Derived.Outline
import Derived.BigQuiet
import Derived.Deep.QuietTactic
import Derived.Sort.AtCall
import Derived.Deep.Cut
import Derived.RegionTactic
set_option linter.unusedVariables false
namespace Go.Proofs.YteapocgpenokfaaGreatDoor
set_option maxRecDepth 100000
open Go.RowKit

theorem below_drewA {B : Nat} {a w : World} (h : Below B a w) (q : Nat) : Below B a (w.drewN q) := ⟨h.os, h.tape, h.output, h.size, h.block⟩
theorem below_setA {B r : Nat} {a w : World} (h : Below B a w) (hr : B ≤ r) (k : Nat) (v : Value) : Below B a (w.setCell ⟨r, k, none⟩ v) := ⟨h.os, h.tape, h.output, by simpa using h.size, fun x hx => (Below.heap_setCell _ _ _ _ (by simp; omega)).trans (h.block x hx)⟩
theorem seeM_wrong {T : List Tok} {st : Pst} {a : Nat} (h : ¬ st.wrong = 0) : seeM T st a = tok0 := by unfold seeM; rw [if_pos (.inl h)]
theorem seeM_end {T : List Tok} {st : Pst} {a : Nat} (h : T.length ≤ st.at' + a) : seeM T st a = tok0 := by unfold seeM; rw [if_pos (.inr h)]
theorem seeM_at {T : List Tok} {st : Pst} {a : Nat} (h : st.wrong = 0) (hl : st.at' + a < T.length) : seeM T st a = T[st.at' + a] := by
  unfold seeM
  rw [if_neg (by omega), List.getD_eq_getElem?_getD, List.getElem?_eq_getElem hl]
  rfl
set_option maxHeartbeats 1600000 in
theorem see_is {w : World} {pb b c : Nat} {T : List Tok} {st : Pst} (h : PaS w pb b c T st) (a : Nat) (ha : a ≤ 2) (hT : T.length ≤ 200) (hat : st.at' ≤ 400) :
    Calls Tryz.prog 50 #[.pointer (some ⟨pb, 0, none⟩), .int .i64 a] w fun e w' => e = .returned (.agg #[.int .i64 (seeM T st a).kind, .string (seeM T st a).s, .int .i64 (seeM T st a).n]) ∧ Below w.heap.size w w' := by
  obtain ⟨x0, x1, x2, x3, f1, f2, f3, hp, hb, hne, hts⟩ := h
  by_cases hw : st.wrong = 0
  · by_cases hl : st.at' + a < T.length
    · rw [seeM_at hw hl]
      obtain ⟨t0, t1, t2⟩ := hts _ hl
      generalize T[st.at' + a] = t at t0 t1 t2
      obtain ⟨tk, ts, tn⟩ := t
      simp only at t0 t1 t2
      rw [hw] at x3
      obtain ⟨n, hn⟩ : ∃ n : Nat, n = st.at' + a := ⟨_, rfl⟩
      rw [← hn] at t0 t1 t2 hl
      have hwr : IntKind.i64.wrap ((st.at' : Int) + (a : Int)) = (n : Int) := by rw [hn]; rw [IntWalk.i64_in _ (by omega)]; simp
      have hge : ¬ ((T.length : Int) ≤ (n : Int)) := by omega
      have hlt : (n : Int) < (T.length : Int) := by omega
      generalize st.at' = at0 at *
      clear hts hn hw x2 f1 f2 f3
      go_enter Tryz.func50, Tryz.ntmps50
      go_upto_region 1 with fail
      go_quiet (fail)
      obtain ⟨W1, hW1⟩ : ∃ W, W = (w.alloc (.cells #[.int .i64 0, .string ⟨#[]⟩, .int .i64 0] 41)).drewN nq := ⟨_, rfl⟩
      have hb1 : Below w.heap.size w W1 := by rw [hW1]; exact below_drewA ((Below.refl _ _).alloc (Nat.le_refl _) _) nq
      have y0 := (hb1.cell (p := ⟨pb, 0, none⟩) hp).trans x0
      have y1 := (hb1.cell (p := ⟨pb, 1, none⟩) hp).trans x1
      have u0 := (hb1.cell (p := ⟨b, n * 3, none⟩) hb).trans t0
      have u1 := (hb1.cell (p := ⟨b, n * 3 + 1, none⟩) hb).trans t1
      have u2 := (hb1.cell (p := ⟨b, n * 3 + 2, none⟩) hb).trans t2
      have r0 : W1.cell? ⟨w.heap.size, 0, none⟩ = some (.int .i64 0) := by rw [hW1]; show (w.alloc _).cell? _ = _; simp
      have r1 : W1.cell? ⟨w.heap.size, 1, none⟩ = some (.string ⟨#[]⟩) := by rw [hW1]; show (w.alloc _).cell? _ = _; simp
      have r2 : W1.cell? ⟨w.heap.size, 2, none⟩ = some (.int .i64 0) := by rw [hW1]; show (w.alloc _).cell? _ = _; simp
      have g0 : W1.frozen? ⟨w.heap.size, 0, none⟩ = false := by rw [hW1]; show (w.alloc _).frozen? _ = _; simp
      have g1 : W1.frozen? ⟨w.heap.size, 1, none⟩ = false := by rw [hW1]; show (w.alloc _).frozen? _ = _; simp
      have g2 : W1.frozen? ⟨w.heap.size, 2, none⟩ = false := by rw [hW1]; show (w.alloc _).frozen? _ = _; simp
      have HB1 : Hid (Below w.heap.size w W1) := hb1
      rw [← hW1]
      obtain ⟨r, hr⟩ : ∃ r, r = w.heap.size := ⟨_, rfl⟩
      have hrl : r < W1.heap.size := by rw [hr, hW1]; show w.heap.size < (w.alloc _).heap.size; simp
      have hpr : pb ≠ r := by omega
      have hbr : b ≠ r := by omega
      rw [← hr] at r0 r1 r2 g0 g1 g2 ⊢
      have HR : Hid (r = w.heap.size) := hr
      clear hW1 hb1 x0 x1 x3 t0 t1 t2 hr
      go_upto_region 3 with fail
      go_region
      go_wp2
      refine bodyPost_ret (v := .agg #[.int .i64 tk, .string ts, .int .i64 tn]) (by simp [results, Tryz.results50, go_sem, r0, r1, r2]) rfl ⟨rfl, ?_⟩
      exact Below.drew (below_setA (below_setA (below_setA HB1.out (by have := HR.out; omega) _ _) (by have := HR.out; omega) _ _) (by have := HR.out; omega) _ _)
    · rw [seeM_end (by omega)]
      rw [hw] at x3
      obtain ⟨n, hn⟩ : ∃ n : Nat, n = st.at' + a := ⟨_, rfl⟩
      have hwr : IntKind.i64.wrap ((st.at' : Int) + (a : Int)) = (n : Int) := by rw [hn]; rw [IntWalk.i64_in _ (by omega)]; simp
      have hge : (T.length : Int) ≤ (n : Int) := by omega
      generalize st.at' = at0 at *
      clear hts hw x2 f1 f2 f3 hl hn
      go_enter Tryz.func50, Tryz.ntmps50
      go_upto_region 1 with fail
      go_quiet (fail)
      go_wp2
      refine bodyPost_ret (v := .agg #[.int .i64 0, .string ⟨#[]⟩, .int .i64 0]) (by simp [results, Tryz.results50, go_sem]) rfl ⟨rfl, ?_⟩
      exact below_setA (below_setA (below_setA (below_drewA ((Below.refl _ _).alloc (Nat.le_refl _) _) nq) (Nat.le_refl _) _ _) (Nat.le_refl _) _ _) (Nat.le_refl _) _ _
  · rw [seeM_wrong hw]
    have hwb : (st.wrong != 0) = true := by rw [bne_iff_ne]; exact hw
    generalize st.wrong = e0 at *
    clear hts x2 f1 f2 f3 x0 x1
    go_enter Tryz.func50, Tryz.ntmps50
    go_upto_region 1 with fail
    go_quiet (fail)
    go_wp2
    refine bodyPost_ret (v := .agg #[.int .i64 0, .string ⟨#[]⟩, .int .i64 0]) (by simp [results, Tryz.results50, go_sem]) rfl ⟨rfl, ?_⟩
    exact below_setA (below_setA (below_setA (below_drewA ((Below.refl _ _).alloc (Nat.le_refl _) _) nq) (Nat.le_refl _) _ _) (Nat.le_refl _) _ _) (Nat.le_refl _) _ _
end Go.Proofs.YteapocgpenokfaaGreatDoor
