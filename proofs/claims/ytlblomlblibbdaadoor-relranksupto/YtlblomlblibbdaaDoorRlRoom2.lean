/-
  CONTRACT: a relation without rows, with two lists of columns, one behind the other (rel.withRoom).
-/
import Derived.Test.YtlblomlblibbdaaDoorRlPairs
set_option linter.unusedVariables false
namespace Go.Proofs.YtlblomlblibbdaaDoor
set_option maxRecDepth 100000
open Go.RowKit Go.WideShapes

set_option maxHeartbeats 1600000 in
theorem withRoom_two (r b off cap : Nat) (u u' : Value) (A B : Txts) (w : World) (hr : r ≤ 4000000) (h1 : 2 ≤ cap) (hc : cap ≤ maxLen) (hb : b < w.heap.size) (hcell : w.cell? ⟨b, off, none⟩ = some u) (hcell' : w.cell? ⟨b, off + 1, none⟩ = some u') (hu : StrsIs w u A.len A.at_) (hu' : StrsIs w u' B.len B.at_) (hn : (appS A B).len * 16 ≤ 140737488351232) (R : Nat → Row) :
    Calls Tryd.prog 16 #[.int .i64 r, .slice (some ⟨b, off, none⟩) 2 cap] w fun e w' => ∃ c' q', e = .returned (.agg #[c', q']) ∧ StrsKept w' w.heap.size w'.heap.size q'.ownBlock c' (appS A B).len (appS A B).at_ ∧ RowsOwn w' w.heap.size q' 0 R ∧ (∃ a1 k1, c' = .slice a1 (appS A B).len k1) ∧ (∃ a2 k2, q' = .slice a2 0 k2) ∧ Below w.heap.size w w' := by
  have CC : Hid (∀ W, Below w.heap.size w W → Calls Tryd.prog 14 #[.slice (some ⟨b, off, none⟩) 2 cap] W fun e w' => ∃ v, e = .returned v ∧ StrsFrom w' W.heap.size v (appS A B).len (appS A B).at_ ∧ (∃ a' c', v = .slice a' (appS A B).len c') ∧ Below W.heap.size W w') := fun W hW => concatS_two b off cap u u' A B W h1 hc (Nat.lt_of_lt_of_le hb hW.size) ((hW.cell (p := ⟨b, off, none⟩) hb).trans hcell) ((hW.cell (p := ⟨b, off + 1, none⟩) hb).trans hcell') (hu.below hW) (hu'.below hW) hn
  obtain ⟨Z, hZ, hmk⟩ := make_rows r hr
  clear hu hu' hcell hcell' hc hn
  generalize (appS A B).len = n at *
  generalize (appS A B).at_ = C at *
  go_enter Tryd.func16, Tryd.ntmps16
  go_upto_region 1 with fail
  go_region_with (go_at_call 14; refine (CC.out _ ?_).mono ?_; (first | exact (((Below.refl _ _).alloc (Nat.le_refl _) _).drew) | exact ((((Below.refl _ _).alloc (Nat.le_refl _) _).drew).alloc (by simp) _)); rintro e w5 ⟨v5, rfl, hv5, hsh5, hb5⟩; obtain ⟨va5, vc5, rfl⟩ := hsh5; have HV5 : Hid (StrsFrom w5 _ (.slice va5 n vc5) n C) := hv5; have HB5 : Hid (Below _ _ w5) := hb5; have hbx : Below (w.heap.size + 1) (w.alloc (.cells #[.slice none 0 0, .slice none 0 0] 25)) w5 := (below_mid hb5 (by first | exact (Below.refl _ _).drew | exact ((Below.refl _ _).drew).alloc (by simp) _) (by simp)); have HBX : Hid (Below (w.heap.size + 1) (w.alloc (.cells #[.slice none 0 0, .slice none 0 0] 25)) w5) := hbx; obtain ⟨x0, x1, x2, x3, x4⟩ := resbox (by omega) hbx; clear hv5 hb5 hbx)
  · go_wp2
    have HBW : Hid (Below w.heap.size w w5) := ((Below.refl _ _).alloc (Nat.le_refl _) _).trans (HBX.out.mono (Nat.le_succ _))
    have hsz : ((w5.setCell ⟨w.heap.size, 0, none⟩ (.slice va5 n vc5)).setCell ⟨w.heap.size, 1, none⟩ (.slice (some ⟨w5.heap.size, 0, none⟩) 0 r)).heap.size = w5.heap.size := by simp
    have hm := made_own (W := (w5.setCell ⟨w.heap.size, 0, none⟩ (.slice va5 n vc5)).setCell ⟨w.heap.size, 1, none⟩ (.slice (some ⟨w5.heap.size, 0, none⟩) 0 r)) (base := w.heap.size) R hZ hr (by rw [hsz]; omega)
    rw [hsz] at hm
    refine bodyPost_ret (v := .agg #[.slice va5 n vc5, .slice (some ⟨w5.heap.size, 0, none⟩) 0 r]) (by simp [results, Tryd.results16, go_sem, x0, x1, x4]) rfl ⟨_, _, rfl, ?_, hm, ⟨_, _, rfl⟩, ⟨_, _, rfl⟩, ?_⟩
    · have hv : StrsFrom w5 (w.heap.size + 1) (.slice va5 n vc5) n C := HV5.out.weaken (by simp)
      refine StrsKept.mono (B := w.heap.size + 1) (T := w5.heap.size) (StrsKept.below (StrsKept.of ((hv.setCell (Nat.lt_succ_self _) _).setCell (Nat.lt_succ_self _) _) (Nat.le_refl _) (by rw [hsz]; exact Nat.le_refl _) (fun k hk => .inr (by rw [hsz]; simp [Value.ownBlock] at hk; omega))) ((Below.refl _ _).alloc (Nat.le_refl _) _)) (Nat.le_succ _) (by simp [hsz])
    · exact ((HBW.out.setCell (Nat.le_refl _) _).setCell (Nat.le_refl _) _).alloc (by rw [hsz]; omega) _
  · go_wp2
    have HBW : Hid (Below w.heap.size w w5) := ((Below.refl _ _).alloc (Nat.le_refl _) _).trans (HBX.out.mono (Nat.le_succ _))
    have hsz : (w.alloc (.cells #[.slice none 0 0, .slice none 0 0] 25)).heap.size = w.heap.size + 1 := by simp
    have hm := made_own (W := w.alloc (.cells #[.slice none 0 0, .slice none 0 0] 25)) (base := w.heap.size + 1) R hZ hr (by rw [hsz]; exact Nat.le_refl _)
    rw [hsz] at hm
    have hm5 : RowsOwn w5 (w.heap.size + 1) (.slice (some ⟨w.heap.size + 1, 0, none⟩) 0 r) 0 R := rows_behind HB5.out rfl hm
    refine bodyPost_ret (v := .agg #[.slice va5 n vc5, .slice (some ⟨w.heap.size + 1, 0, none⟩) 0 r]) (by simp [results, Tryd.results16, go_sem, x0, x1]) rfl ⟨_, _, rfl, ?_, ?_, ⟨_, _, rfl⟩, ⟨_, _, rfl⟩, ?_⟩
    · have hv : StrsFrom w5 (w.heap.size + 2) (.slice va5 n vc5) n C := HV5.out.weaken (by simp)
      exact StrsKept.of ((hv.setCell (by simp) _).setCell (by simp) _) (by omega) (Nat.le_refl _) (fun k hk => .inl (by simp [Value.ownBlock] at hk; omega))
    · exact rows_less ((hm5.setCell (Nat.lt_succ_self _) _).setCell (Nat.lt_succ_self _) _) (Nat.le_succ _)
    · exact (HBW.out.setCell (Nat.le_refl _) _).setCell (Nat.le_refl _) _
end Go.Proofs.YtlblomlblibbdaaDoor
