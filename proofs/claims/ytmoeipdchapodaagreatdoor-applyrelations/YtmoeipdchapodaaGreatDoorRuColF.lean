/-
  CONTRACTS of package run at a plan of two ops, a table and a function of its two columns: the outline of a function's columns.
-/
import Derived.Test.YtmoeipdchapodaaGreatDoorRuColE
import Derived.Deep.RegionHeld3
import Derived.Deep.QuietTactic
import Derived.Deep.Cut
import Derived.BigQuiet
import Derived.Deep.RegionLaw
import Derived.Laws.EntriesVeiled
set_option linter.unusedVariables false
namespace Go.Proofs.YtmoeipdchapodaaGreatDoor
set_option maxRecDepth 100000
open Go.RowKit Go.WideShapes

theorem drew_below (B : Nat) (w : World) : Below B w w.drew := ⟨rfl, rfl, rfl, Nat.le_refl _, fun _ _ => rfl⟩
set_option maxHeartbeats 6400000 in
theorem outline_apply (pb cb qb rb ib rcap M tb : Nat) (x y : It) (fn : ByteArray) (V0 : ByteArray → Option Value) (F : FuncId) (caps : Array Value) (L : List FnE) (ca : Option Addr) (ck : Nat) (w : World) (h : PlS w pb cb qb rb ib rcap x y fn) (hF : FnS w M V0 L) (hg : V0 fn = some (.agg #[.int .i64 2, .func (.func F) #[] caps])) (hc : StrsIs w (.slice ca 2 ck) 2 C2) (ht : w.heap[tb]? = some (.cells #[.slice ca 2 ck, .slice none 0 0] 36)) (hT : ∀ W, Below w.heap.size w W → Tabs W) :
    Calls Tryz.prog 22 #[.pointer (some ⟨pb, 13, none⟩), .map (some M), .slice (some ⟨tb, 0, none⟩) 1 1] w fun e w' => ∃ a cap, e = .returned (.tuple #[.agg #[.slice a 3 cap, .slice none 0 0], .int .i64 0]) ∧ StrsFrom w' w.heap.size (.slice a 3 cap) 3 C3 ∧ Below w.heap.size w w' := by
  obtain ⟨hpb, _, _, _, _, _, _, _, _, _, _, _, _, _, d13, d14, d15, d16, d17, d18, d19, _⟩ := h.cells
  obtain ⟨t0, t1, _, _, tz⟩ := blk2 ht
  obtain ⟨c0, c1, _, _, _, _, cz⟩ := blk3 h.cols
  have HS : Hid (∀ W, Below w.heap.size w W → W.cell? ⟨pb, 15, none⟩ = some (.string ⟨#[118]⟩) ∧ W.cell? ⟨pb, 19, none⟩ = some (.string fn) ∧ W.cell? ⟨pb, 16, none⟩ = some (.slice (some ⟨cb, 0, none⟩) 2 3) ∧ W.cell? ⟨tb, 0, none⟩ = some (.slice ca 2 ck) ∧ W.cell? ⟨tb, 1, none⟩ = some (.slice none 0 0) ∧ (Instr.lookup 66 (.map (some M)) (.string fn) false).run Tryz.prog W = .ok (.agg #[.int .i64 2, .func (.func F) #[] caps]) W ∧ pb < W.heap.size ∧ tb < W.heap.size) := fun W hW => by
    have k := ((hF.below hW).vm.look h.fs Tryz.underlying66 (z := .agg #[.int .i64 0, .nilFunc]) (by kernel_rfl)).1
    rw [hg] at k
    have e := fun o => hW.cell (p := ⟨pb, o, none⟩) hpb
    have e' := fun o => hW.cell (p := ⟨tb, o, none⟩) tz
    exact ⟨(e _).trans d15, (e _).trans d19, (e _).trans d16, (e' _).trans t0, (e' _).trans t1, k, Nat.lt_of_lt_of_le hpb hW.size, Nat.lt_of_lt_of_le tz hW.size⟩
  have CO : Hid (∀ W, Below w.heap.size w W → Calls Tryz.prog 80 #[.agg #[.slice ca 2 ck, .slice none 0 0], .string ⟨#[118]⟩, .int .i64 2, .slice (some ⟨cb, 0, none⟩) 2 3] W fun e w' => ∃ a cap, e = .returned (.tuple #[.agg #[.slice a 3 cap, .slice none 0 0], .int .i64 0]) ∧ StrsFrom w' W.heap.size (.slice a 3 cap) 3 C3 ∧ Below W.heap.size W w') := fun W hW => outlineApply_is ca ck cb W (hc.below hW) (Nat.lt_of_lt_of_le cz hW.size) ((hW.cell (p := ⟨cb, 0, none⟩) cz).trans c0) ((hW.cell (p := ⟨cb, 1, none⟩) cz).trans c1) (fun W' hW' => hT W' (hW.trans (hW'.mono hW.size)))
  have hfd : ∀ (W : World), (Instr.field 87 (.agg #[.int .i64 2, .func (.func F) #[] caps]) 0).run Tryz.prog W = .ok (.int .i64 2) W := fun W => by kernel_rfl
  clear h hF hg hc ht hT d14 d15 d16 d17 d18 d19 c0 c1 t0 t1
  go_enter Tryz.func22, Tryz.ntmps22
  go_upto_region 7 with fail
  go_region_held3 (fun W => W.cell? ⟨pb, 15, none⟩ = some (.string ⟨#[118]⟩) ∧ W.cell? ⟨pb, 19, none⟩ = some (.string fn) ∧ W.cell? ⟨pb, 16, none⟩ = some (.slice (some ⟨cb, 0, none⟩) 2 3) ∧ W.cell? ⟨tb, 0, none⟩ = some (.slice ca 2 ck) ∧ W.cell? ⟨tb, 1, none⟩ = some (.slice none 0 0) ∧ (Instr.lookup 66 (.map (some M)) (.string fn) false).run Tryz.prog W = .ok (.agg #[.int .i64 2, .func (.func F) #[] caps]) W ∧ pb < W.heap.size ∧ tb < W.heap.size)
    ((refine HS.out _ ?_; (focus (repeat (first | exact Below.refl _ _ | exact Hid.out (by assumption) | refine Below.setCell ?_ (by first | omega | (simp <;> omega)) _ | refine Below.alloc ?_ (by first | omega | (simp <;> omega)) _ | refine Below.trans ?_ (drew_below _ _))))))
    ((go_at_call 80; refine (CO.out _ ?_).mono ?_; (· exact ((Below.refl _ _).alloc (Nat.le_refl _) _).trans (drew_below _ _)); rintro e w1 ⟨a1, k1, rfl, hs1, hb1⟩; have HB1 : Hid (Below w.heap.size w w1) := (((Below.refl _ _).alloc (Nat.le_refl _) _).trans (drew_below _ _)).trans (hb1.mono (by first | omega | (simp <;> omega))); have HS1 : Hid (StrsFrom w1 (w.heap.size + 1) (.slice a1 3 k1) 3 C3) := (by have k := hs1; simp at k; exact k); have HR1 : Hid (w1.heap[w.heap.size]? = some (.cells #[.slice none 0 0, .slice none 0 0] 36)) := (hb1.block _ (by first | omega | (simp <;> omega))).trans (alloc_newN rfl); obtain ⟨q0, q1, q2, q3, q4⟩ := blk2 HR1.out; clear hb1 hs1))
  go_wp2
  refine bodyPost_ret (v := .tuple #[.agg #[.slice a1 3 k1, .slice none 0 0], .int .i64 0]) (by simp [results, Tryz.results22, go_sem, q0, q1]) rfl ⟨a1, k1, rfl, ?_, ?_⟩
  · exact strs_ahead ((HS1.out.setCell (by simp) _).setCell (by simp) _) (by omega)
  · (focus (repeat (first | exact Below.refl _ _ | exact Hid.out (by assumption) | refine Below.setCell ?_ (by first | omega | (simp <;> omega)) _ | refine Below.alloc ?_ (by first | omega | (simp <;> omega)) _)))
end Go.Proofs.YtmoeipdchapodaaGreatDoor
