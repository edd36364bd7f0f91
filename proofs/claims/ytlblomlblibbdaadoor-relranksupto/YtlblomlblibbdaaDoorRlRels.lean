/-
  CONTRACT: a relation copied (rels, of package pleacherlaw).
-/
import Derived.Test.YtlblomlblibbdaaDoorRlMem
import Derived.Test.YtlblomlblibbdaaDoorRlFault
import Derived.Deep.RegionLaw
set_option linter.unusedVariables false
namespace Go.Proofs.YtlblomlblibbdaaDoor
set_option maxRecDepth 100000
open Go.RowKit

set_option maxHeartbeats 3200000 in
theorem rels_is (c q : Value) (n m : Nat) (C : Nat → ByteArray) (R : Nat → Row) (w : World) (hc : StrsIs w c n C) (hq : RowsIs w q m R) (hf : StrsFine n C) (hg : RowsFine m R) :
    Calls Tryd.prog 4 #[.agg #[c, q]] w fun e w' => ∃ c' q', e = .returned (.agg #[c', q']) ∧ StrsIs w' c' n C ∧ RowsIs w' q' m R ∧ Below w.heap.size w w' := by
  have HC : Hid (∀ W, Below w.heap.size w W → StrsIs W c n C) := fun W hW => hc.below hW
  have HF : Hid (n * 16 ≤ 140737488351232) := hf.1
  have HG : Hid (∀ i, i < m → (R i).len * 32 ≤ 140737488351232) := fun i hi => (hg.2 i hi).1
  obtain ⟨qa, qcap, rfl, q1, q2, _, q3⟩ := hq
  have hm24 : m * 24 ≤ 140737488351232 := hg.1
  have hmm : m ≤ 9223372036854775807 := by omega
  have HQ : Hid (∀ W i, Below w.heap.size w W → i < m → ∃ b off u, qa = some ⟨b, off, none⟩ ∧ b < w.heap.size ∧ W.cell? ⟨b, off + i, none⟩ = some u ∧ ItsIs W u (R i).len (R i).at_) := fun W i hW hi => by
    obtain ⟨b, off, h1, h2, h3⟩ := q3 (by omega)
    obtain ⟨u, h4, h5⟩ := h3 i hi
    exact ⟨b, off, u, h1, h2, (hW.cell (p := ⟨b, off + i, none⟩) h2).trans h4, h5.below hW⟩
  obtain ⟨ca, ccap, rfl, c1, c2, _, _⟩ := hc
  clear hf hg q3 c2 q2
  go_enter Tryd.func4, Tryd.ntmps4
  go_wp2_with (first | (at_builtin; refine wpList_copy_strs rfl (.const (.slice none 0 0)) (.tmp 6) rfl rfl _ n C rfl (HC.out _ (((Below.refl _ _).alloc (Nat.le_refl _) _).alloc (by simp) _)) HF.out ?_; intro v1 w1 hs1 hsh1 hb1; obtain ⟨va1, vc1, rfl⟩ := hsh1; have HS1 : Hid (StrsFrom w1 _ (.slice va1 n vc1) n C) := hs1; have HB1 : Hid (Below _ _ w1) := hb1; have hz1 := hb1.size; obtain ⟨hcc, hff⟩ := bcell hb1; clear hs1 hb1))
  have hz1 : w.heap.size + 2 ≤ w1.heap.size := by simpa using hz1
  have HX0 : Hid (∀ W, Below w1.heap.size w1 W → W.cell? ⟨w.heap.size, 1, none⟩ = some (.slice qa m qcap) ∧ W.frozen? ⟨w.heap.size + 1, 0, none⟩ = false ∧ W.frozen? ⟨w.heap.size + 1, 1, none⟩ = false ∧ W.cell? ⟨w.heap.size + 1, 0, none⟩ = some (.slice none 0 0) ∧ W.cell? ⟨w.heap.size + 1, 1, none⟩ = some (.slice none 0 0)) := fun W hW => by
    have k : ∀ b o, b < w1.heap.size → W.cell? ⟨b, o, none⟩ = w1.cell? ⟨b, o, none⟩ := fun b o h => hW.cell (p := ⟨b, o, none⟩) h
    have f : ∀ b o, b < w1.heap.size → W.frozen? ⟨b, o, none⟩ = w1.frozen? ⟨b, o, none⟩ := fun b o h => hW.frozen (p := ⟨b, o, none⟩) h
    refine ⟨?_, ?_, ?_, ?_, ?_⟩
    · rw [k _ _ (by omega), hcc _ _ (by simp <;> omega)]; simp
    · rw [f _ _ (by omega), hff _ _ (by simp <;> omega)]; simp
    · rw [f _ _ (by omega), hff _ _ (by simp <;> omega)]; simp
    · rw [k _ _ (by omega), hcc _ _ (by simp <;> omega)]; simp
    · rw [k _ _ (by omega), hcc _ _ (by simp <;> omega)]; simp
  have HBW : Hid (∀ W, Below w1.heap.size w1 W → Below w.heap.size w W) := fun W hW => (((Below.refl _ _).alloc (Nat.le_refl _) _).alloc (by simp) _).trans ((HB1.out.mono (by first | omega | (simp; done) | (simp; omega))).trans (hW.mono (by omega)))
  clear hcc hff
  go_loopw [4] (fun i wr => ∃ (k : Nat) (rv : Value), k ≤ m ∧ i = .int .i64 k ∧ wr.cell? ⟨w1.heap.size, 0, none⟩ = some (.slice va1 n vc1) ∧ wr.cell? ⟨w1.heap.size, 1, none⟩ = some rv ∧ wr.frozen? ⟨w1.heap.size, 1, none⟩ = false ∧ RowsOwn wr (w1.heap.size + 1) rv k R ∧ Below w1.heap.size w1 wr ∧ w1.heap.size < wr.heap.size) (fun i _ => m - (intOf i).toNat)
  case atStart => exact ⟨0, .slice none 0 0, Nat.zero_le _, rfl, by simp, by simp, by simp, RowsOwn.nil _ _ _, (Below.refl _ _).alloc (Nat.le_refl _) _, by simp⟩
  case round =>
    obtain ⟨k, rv, hk, rfl, t0, t1, tf, hrow, hbr, hzr⟩ := hrel
    obtain ⟨ra, rc, rfl⟩ := hrow.shape
    have HROW : Hid (RowsOwn wr (w1.heap.size + 1) (.slice ra k rc) k R) := hrow
    have HBR : Hid (Below w1.heap.size w1 wr) := hbr
    obtain ⟨x1, x2, x3, x4, x5⟩ := HX0.out wr hbr
    clear hrow hbr
    by_cases hlt : k < m
    · obtain ⟨b, off, u, rfl, hb0, e1, hu⟩ := HQ.out wr k (HBW.out wr HBR.out) hlt
      have hbz : b < wr.heap.size := by omega
      have hki : (k : Int) < (m : Int) := by omega
      have HU : Hid (ItsIs wr u (R k).len (R k).at_) := hu
      obtain ⟨ua, ucap, rfl, u1, u2, _, _⟩ := hu
      have hun : (R k).len ≤ 9223372036854775807 := by unfold maxLen at u2; omega
      have hg32 := HG.out k hlt
      clear u2 x2 x3 x4 x5
      go_upto_region 5 with fail
      go_region_law (first
        | (refine step_copy_items rfl (.const (.slice none 0 0)) (.tmp 22) rfl (by simp [Act.eval]) (.slice ua (R k).len ucap) (R k).len (R k).at_ (by simp [Act.eval]) (by exact HU.out.heap rfl) hg32 ?_; intro v5 w5 hi5 hsh5 hb5; obtain ⟨va5, vc5, rfl⟩ := hsh5; obtain ⟨y1, y2, y3, y4, y5⟩ := copied_facts (wr := wr) hi5 hb5 rfl rfl rfl rfl HROW.out hzr; have HI5 : Hid (ItsApart w5 (w1.heap.size + 1) (Value.slice ra k rc).ownBlock (.slice va5 (R k).len vc5) (R k).len (R k).at_) := y1; have HB5 : Hid (Below (w1.heap.size + 1) wr w5) := y2; have HR5 : Hid (RowsOwn w5 (w1.heap.size + 1) (.slice ra k rc) k R) := y3; have y6 : w1.heap.size < w5.heap.size := Nat.lt_of_lt_of_le hzr y4; have y7 : w5.cell? ⟨w1.heap.size, 1, none⟩ = some (.slice ra k rc) := (y5 _ _ hzr).trans t1; clear hi5 hb5 y1 y2 y3)
        | (refine step_push_row rfl (.tmp 17) (.tmp 24) rfl (w1.heap.size + 1) k (.slice ra k rc) R (by simp [Act.eval]) (by exact (HR5.out.alloc _).heap rfl) (by simp <;> omega) ⟨w5.heap.size, 0, none⟩ 1 (.slice va5 (R k).len vc5) (by simp [Act.eval]) (by simp) (by exact (HI5.out.alloc _).heap rfl) (by omega) ?_; intro v6 w6 hr6 hsh6 hg6; obtain ⟨va6, vc6, rfl⟩ := hsh6; have HR6 : Hid (RowsOwn w6 (w1.heap.size + 1) (.slice va6 (k + 1) vc6) (k + 1) R) := hr6; have HB6 : Hid (Below (w1.heap.size + 1) wr w6) := pushed_facts (wr := wr) (w5 := w5) hg6 rfl rfl rfl rfl HB5.out HROW.out hzr; have s0 : w6.cell? ⟨w1.heap.size, 0, none⟩ = some (.slice va1 n vc1) := (HB6.out.cell (p := ⟨w1.heap.size, 0, none⟩) (Nat.lt_succ_self _)).trans t0; have s1 : w6.cell? ⟨w1.heap.size, 1, none⟩ = some (.slice ra k rc) := (HB6.out.cell (p := ⟨w1.heap.size, 1, none⟩) (Nat.lt_succ_self _)).trans t1; have sf : w6.frozen? ⟨w1.heap.size, 1, none⟩ = false := (HB6.out.frozen (p := ⟨w1.heap.size, 1, none⟩) (Nat.lt_succ_self _)).trans tf; have hz6 : w1.heap.size < w6.heap.size := Nat.lt_of_lt_of_le hzr HB6.out.size; clear hr6 hg6))
      all_goals
        go_wp2_with fail
        go_roundw
        case rel => exact ⟨k + 1, .slice va6 (k + 1) vc6, by omega, by go_num, by simp [go_sem, s0], by simp [go_sem, s1], by simp [go_sem, sf], HR6.out.setCell (by simp) _, (HBR.out.trans (HB6.out.mono (by omega))).setCell (by simp) _, by simp; omega⟩
        case measure => simp [intOf]; omega
    · have e : k = m := by omega
      subst e
      have HFIN : Hid (∀ u u', StrsIs ((wr.setCell ⟨w.heap.size + 1, 0, none⟩ u).setCell ⟨w.heap.size + 1, 1, none⟩ u') (.slice va1 n vc1) n C ∧ RowsIs ((wr.setCell ⟨w.heap.size + 1, 0, none⟩ u).setCell ⟨w.heap.size + 1, 1, none⟩ u') (.slice ra k rc) k R ∧ Below w.heap.size w ((wr.setCell ⟨w.heap.size + 1, 0, none⟩ u).setCell ⟨w.heap.size + 1, 1, none⟩ u')) := fun u u' =>
        ⟨(((HS1.out.below HBR.out).setCell (by simp) _).setCell (by simp) _).is, ((HROW.out.setCell (by first | omega | (simp; done) | (simp; omega)) _).setCell (by first | omega | (simp; done) | (simp; omega)) _).is, ((HBW.out wr HBR.out).setCell (by simp) _).setCell (by simp) _⟩
      go_wp2
      exact bodyPost_ret (v := .agg #[.slice va1 n vc1, .slice ra k rc]) (by simp [results, Tryd.results4, go_sem, x4, x5]) rfl ⟨_, _, rfl, HFIN.out _ _⟩
end Go.Proofs.YtlblomlblibbdaaDoor
