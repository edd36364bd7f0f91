/-
  CONTRACT: a query cut into tokens (read.Cut): the tokens that the plain function tells, in a row of their own.
-/
import Derived.Test.YtcbpjgnbdpfiiaaGreatDoorTkOpen
import Derived.Laws.OwnMore
import Derived.Laws.AppendOwnNone
import Derived.Maps.AppendAt
import Derived.OwnWalk
set_option linter.unusedVariables false
namespace Go.Proofs.YtcbpjgnbdpfiiaaGreatDoor
set_option maxRecDepth 100000
open Go.RowKit

theorem ownsRow_below {w w' : World} {base : Nat} {e : TypeId} {size : Nat} {v : Value} {n : Nat} {xs : List Value} (h : w.ownsRow base e size v n xs) (hb : Below w.heap.size w w') : w'.ownsRow base e size v n xs := by
  refine ⟨h.1, ?_⟩
  rcases h.2 with h1 | ⟨g, cap, cur, h1, h2, h3, h4⟩
  · exact .inl h1
  · refine .inr ⟨g, cap, cur, h1, h2, ?_, h4⟩
    rw [hb.block g (Array.getElem?_eq_some_iff.1 h3).1]
    exact h3
theorem own_shape {w : World} {base : Nat} {e : TypeId} {size : Nat} {v : Value} {n : Nat} {xs : List Value} (h : w.ownsRow base e size v n xs) : ∃ a c, v = .slice a n c := by
  obtain ⟨_, ⟨rfl, rfl⟩ | ⟨b, cap, cur, rfl, _⟩⟩ := h
  · exact ⟨_, _, rfl⟩
  · exact ⟨_, _, rfl⟩
theorem infoTok : (Tryz.prog.info? 50).map (fun i => (i.zero, i.size, i.bytes)) = some (some (.agg #[.int .i64 0, .string ByteArray.empty, .int .i64 0]), 3, 32) := by kernel_rfl
theorem elemT_in {w : World} (t : Tok) : ∀ j u, (tokC t)[j]? = some u → (w.alloc (.cells #[.int .i64 t.kind, .string t.s, .int .i64 t.n] 50)).cell? ((⟨w.heap.size, 0, none⟩ : Addr).add j) = some u := by
  intro j u hj
  have hj3 : j < 3 := (List.getElem?_eq_some_iff.1 hj).1
  match j, hj3 with
  | 0, _ => simp [tokC] at hj; subst hj; simp [Addr.add]
  | 1, _ => simp [tokC] at hj; subst hj; simp [Addr.add]
  | 2, _ => simp [tokC] at hj; subst hj; simp [Addr.add]
theorem elemT_in2 {w : World} (o : Obj) (t : Tok) : ∀ j u, (tokC t)[j]? = some u → ((w.alloc o).alloc (.cells #[.int .i64 t.kind, .string t.s, .int .i64 t.n] 50)).cell? ((⟨w.heap.size + 1, 0, none⟩ : Addr).add j) = some u := by
  intro j u hj
  have := elemT_in (w := w.alloc o) t j u hj
  simpa using this
theorem elemT_one (t : Tok) : ∀ u ∈ tokC t, u.oneCell' = true := by
  intro u hu
  simp [tokC] at hu
  rcases hu with rfl | rfl | rfl <;> rfl
/-- tokens in a row of one's own -/
def ToksOwn (w : World) (base : Nat) (v : Value) (L : List Tok) : Prop := w.ownsRow base 50 3 v L.length (tokCells L)
theorem ToksOwn.below {w w' : World} {base : Nat} {v : Value} {L : List Tok} (h : ToksOwn w base v L) (hb : Below w.heap.size w w') : ToksOwn w' base v L := ownsRow_below h hb
theorem ToksOwn.nil (w : World) (base : Nat) : ToksOwn w base (.slice none 0 0) [] := World.ownsRow_nil _ _ _ _
theorem ToksOwn.mono {w : World} {base base' : Nat} {v : Value} {L : List Tok} (h : ToksOwn w base v L) (hb : base' ≤ base) : ToksOwn w base' v L := by
  obtain ⟨h1, h2⟩ := h
  refine ⟨h1, ?_⟩
  rcases h2 with h2 | ⟨g, cap, cur, k1, k2, k3⟩
  · exact .inl h2
  · exact .inr ⟨g, cap, cur, k1, by omega, k3⟩

set_option maxHeartbeats 3200000 in
theorem cut_is (s : ByteArray) (w : World) (hs : s.size ≤ maxLen) (hT : Tabs w) (hm : MaxL w) (hM : MarkTab w) (hg : 0 < w.heap.size) :
    Calls Tryz.prog 6 #[.string s] w fun e w' => ∃ v, e = .returned (.tuple #[v, .int .i64 (cutP s.data.toList), .int .i64 (cutE s.data.toList)]) ∧ ToksOwn w' w.heap.size v (cutT s.data.toList) ∧ Below w.heap.size w w' := by
  have hsl : s.data.toList.length = s.size := rfl
  unfold maxLen at hs
  by_cases h1 : 1000 < s.size
  · have HR : Hid (cutT s.data.toList = [] ∧ cutP s.data.toList = 0 ∧ cutE s.data.toList = 1) := cut_big h1
    clear hT hm hM hsl
    go_enter Tryz.func6, Tryz.ntmps6
    go_wp2
    refine bodyPost_ret (v := .tuple #[.slice none 0 0, .int .i64 0, .int .i64 1]) (by simp [results, Tryz.results6, go_sem]) rfl ?_
    exact ⟨_, by rw [HR.out.2.1, HR.out.2.2]; rfl, by rw [HR.out.1]; exact ToksOwn.nil _ _, Below.refl _ _⟩
  have hs1 : s.size ≤ 1000 := by omega
  have H1 : Hid (¬ 1000 < s.data.toList.length) := h1
  clear h1 hs
  have CB : Hid (∀ W, Calls Tryz.prog 11 #[.string s] W fun e w' => e = .returned (.int .i64 (bl s.data.toList)) ∧ Below W.heap.size W w') := fun W => blankBytes_any s W hs1
  have CA : Hid (∀ W a, a ≤ s.size → Calls Tryz.prog 11 #[.string (s.extract a s.size)] W fun e w' => e = .returned (.int .i64 (bl (s.data.toList.drop a))) ∧ Below W.heap.size W w') := fun W a ha => by
    have := blankBytes_any (s.extract a s.size) W (by simp; omega)
    rw [ext_drop] at this
    exact this
  have CF : Hid (∀ W a, Below w.heap.size w W → a < s.size → Calls Tryz.prog 12 #[.string (s.extract a s.size)] W fun e w' => e = .returned (resV (tk (s.data.toList.drop a))) ∧ Below W.heap.size W w') := fun W a hW ha => by
    have := firstToken_any (s.extract a s.size) W (by simp; omega) (by simp; omega) (Utf8Tabs_below hT hW) (hm.below hW) (hM.below hW hg) (Nat.lt_of_lt_of_le hg hW.size)
    rw [ext_drop] at this
    exact this
  obtain ⟨i0, hi0, hz0, hz1, hz2⟩ := info_parts infoTok
  have hbl0 : bl s.data.toList ≤ s.size := bl_le _
  clear hT hm hM hg
  go_enter Tryz.func6, Tryz.ntmps6
  go_wp2_with (go_at_call 11; refine (CB.out _).mono ?_; rintro e w0 ⟨rfl, hb0⟩)
  have HB0 : Hid (Below w.heap.size w w0) := hb0
  clear hb0
  go_loopw [5, 6] (fun v i wr => ∃ (a : Nat) (L : List Tok), a ≤ s.size ∧ i = .int .i64 a ∧ (a < s.size → bk (bAt s.data.toList a) = false) ∧ L.length ≤ 200 ∧ CutTo s.data.toList L a ∧ ToksOwn wr w.heap.size v L ∧ Below w.heap.size w wr) (fun _ i _ => s.size - (intOf i).toNat)
  case atStart =>
    refine ⟨bl s.data.toList, [], hbl0, rfl, fun h => bl_eq _ (by omega), by simp, ?_, ToksOwn.nil _ _, HB0.out⟩
    have := (CutTo.zero s.data.toList).blanks (k := bl s.data.toList) (by simp)
    simpa using this
  case round =>
    obtain ⟨a, L, ha, rfl, hbk, hL, hcut, hv, hbr⟩ := hrel
    have hshape := own_shape hv
    obtain ⟨va, vc, rfl⟩ := hshape
    have HV : Hid (ToksOwn wr w.heap.size (.slice va L.length vc) L) := hv
    have HB : Hid (Below w.heap.size w wr) := hbr
    have HCUT : Hid (CutTo s.data.toList L a) := hcut
    have HK : Hid (a < s.size → bk (bAt s.data.toList a) = false) := hbk
    have hzr : w.heap.size ≤ wr.heap.size := hbr.size
    clear hv hbr hcut hbk HB0 CB hbl0
    by_cases hlt : a < s.size
    · by_cases hfull : L.length = 200
      · have HR : Hid (cutT s.data.toList = [] ∧ cutP s.data.toList = a ∧ cutE s.data.toList = 1) := HCUT.out.full H1.out hlt (HK.out hlt) (by omega)
        have hq : ((L.length : Int) == 200) = true := by simp; omega
        clear hfull
        go_wp2
        refine bodyPost_ret (v := .tuple #[.slice none 0 0, .int .i64 a, .int .i64 1]) (by simp [results, Tryz.results6, go_sem]) rfl ?_
        exact ⟨_, by rw [HR.out.2.1, HR.out.2.2], by rw [HR.out.1]; exact ToksOwn.nil _ _, HB.out⟩
      · have hq : ((L.length : Int) == 200) = false := by simp; omega
        have CF1 : Hid (Calls Tryz.prog 12 #[.string (s.extract a s.size)] wr fun e w' => e = .returned (resV (tk (s.data.toList.drop a))) ∧ Below wr.heap.size wr w') := CF.out wr a HB.out hlt
        have HER : Hid (¬ (tk (s.data.toList.drop a)).1 = 0 → cutT s.data.toList = [] ∧ cutP s.data.toList = a ∧ cutE s.data.toList = (tk (s.data.toList.drop a)).1) := fun h => HCUT.out.err H1.out hlt (HK.out hlt) (by omega) h
        have HTK : Hid ((tk (s.data.toList.drop a)).1 = 0 → CutTo s.data.toList (L ++ [(tk (s.data.toList.drop a)).2.1]) (a + (tk (s.data.toList.drop a)).2.2)) := fun h => HCUT.out.tok hlt (HK.out hlt) (by omega) h
        have HSZ : Hid ((tk (s.data.toList.drop a)).1 = 0 → 1 ≤ (tk (s.data.toList.drop a)).2.2 ∧ (tk (s.data.toList.drop a)).2.2 ≤ s.size - a) := fun h => by
          have := tk_size (l := s.data.toList.drop a) (by rw [List.length_drop]; omega) h
          rw [List.length_drop] at this
          exact this
        clear CF HK HCUT
        generalize tk (s.data.toList.drop a) = r at *
        obtain ⟨E, ⟨K, S, N⟩, Z⟩ := r
        simp only [resV, tokV] at CF1
        by_cases hE : E = 0
        · subst hE
          have hZ := HSZ.out rfl
          simp only at hZ
          obtain ⟨hZ1, hZ2⟩ := hZ
          have HC2 : Hid (CutTo s.data.toList (L ++ [⟨K, S, N⟩]) (a + Z)) := HTK.out rfl
          have hbl1 : bl (s.data.toList.drop (a + Z)) ≤ s.size - (a + Z) := by
            have := bl_le (s.data.toList.drop (a + Z))
            rw [List.length_drop] at this
            exact this
          have HBK : Hid (a + Z + bl (s.data.toList.drop (a + Z)) < s.size → bk (bAt s.data.toList (a + Z + bl (s.data.toList.drop (a + Z)))) = false) := fun h => by
            have := bl_eq (s.data.toList.drop (a + Z)) (by rw [List.length_drop]; omega)
            rw [bAt_drop] at this
            exact this
          have HC3 : Hid (CutTo s.data.toList (L ++ [⟨K, S, N⟩]) (a + Z + bl (s.data.toList.drop (a + Z)))) := HC2.out.blanks (Nat.le_refl _)
          have CA1 : Hid (∀ W, Calls Tryz.prog 11 #[.string (s.extract (a + Z) s.size)] W fun e w' => e = .returned (.int .i64 (bl (s.data.toList.drop (a + Z)))) ∧ Below W.heap.size W w') := fun W => CA.out W (a + Z) (by omega)
          clear HER HTK HSZ HC2 CA
          generalize bl (s.data.toList.drop (a + Z)) = Y at *
          go_wp2_with (first
            | (go_at_call 12; refine CF1.out.mono ?_; rintro e w1 ⟨rfl, hb1⟩; have HV1 : Hid (ToksOwn w1 w.heap.size (.slice va L.length vc) L) := HV.out.below hb1; have HB1 : Hid (Below w.heap.size w w1) := HB.out.trans (hb1.mono hzr); have hzr1 : w.heap.size ≤ w1.heap.size := Nat.le_trans hzr hb1.size; clear hb1)
            | (at_builtin; refine wpList_append_own _ rfl (.tmp 35) (.tmp 37) 25 rfl w.heap.size 50 i0 _ 3 32 Tryz.underlying25 hi0 hz0 hz1 hz2 rfl (by decide) _ _ _ rfl ((World.ownsRow.alloc HV1.out _).alloc _) ⟨w1.heap.size + 1, 0, none⟩ 1 1 (tokC ⟨K, S, N⟩) rfl rfl (elemT_in2 _ ⟨K, S, N⟩) (elemT_one _) (by unfold maxLen; omega) (by omega) (by simp <;> omega) ?_; intro v6 w6 hown6 hgrow6 _; obtain ⟨va6, vc6, rfl⟩ := own_shape hown6; have HV6 : Hid (w6.ownsRow w.heap.size 50 3 (.slice va6 (L.length + 1) vc6) (L.length + 1) (tokCells L ++ tokC ⟨K, S, N⟩)) := hown6; have HB6 : Hid (Below w.heap.size w w6) := ((HB1.out.alloc hzr1 _).alloc (by simp <;> omega) _).grown hgrow6 (by simp <;> omega) (fun z hz => (World.ownsRow.lt HV1.out z hz).1); have hzr6 : w.heap.size ≤ w6.heap.size := HB6.out.size; clear hown6 hgrow6)
            | (go_at_call 11; refine (CA1.out _).mono ?_; rintro e w7 ⟨rfl, hb7⟩; have HV7 : Hid (w7.ownsRow w.heap.size 50 3 (.slice va6 (L.length + 1) vc6) (L.length + 1) (tokCells L ++ tokC ⟨K, S, N⟩)) := ownsRow_below HV6.out hb7; have HB7 : Hid (Below w.heap.size w w7) := HB6.out.trans (hb7.mono hzr6); clear hb7))
          go_roundw
          case rel => exact ⟨a + Z + Y, L ++ [⟨K, S, N⟩], by omega, by go_num, HBK.out, by simp; omega, HC3.out, by unfold ToksOwn; rw [tokCells_snoc, List.length_append]; exact HV7.out, HB7.out⟩
          case measure => simp [intOf]; omega
        · have HR : Hid (cutT s.data.toList = [] ∧ cutP s.data.toList = a ∧ cutE s.data.toList = E) := HER.out hE
          have hE' : (E == 0) = false := by simpa using hE
          clear HER HTK HSZ CA hE
          go_wp2_with (first
            | (go_at_call 12; refine CF1.out.mono ?_; rintro e w1 ⟨rfl, hb1⟩; have HB1 : Hid (Below w.heap.size w w1) := HB.out.trans (hb1.mono hzr); have hzr1 : w.heap.size ≤ w1.heap.size := Nat.le_trans hzr hb1.size; clear hb1))
          refine bodyPost_ret (v := .tuple #[.slice none 0 0, .int .i64 a, .int .i64 E]) (by simp [results, Tryz.results6, go_sem]) rfl ?_
          exact ⟨_, by rw [HR.out.2.1, HR.out.2.2], by rw [HR.out.1]; exact ToksOwn.nil _ _, HB1.out.alloc hzr1 _⟩
    · have e : a = s.size := by omega
      have HR : Hid (cutT s.data.toList = L ∧ cutP s.data.toList = 0 ∧ cutE s.data.toList = 0) := HCUT.out.done H1.out (by omega)
      go_wp2
      refine bodyPost_ret (v := .tuple #[.slice va L.length vc, .int .i64 0, .int .i64 0]) (by simp [results, Tryz.results6, go_sem]) rfl ?_
      exact ⟨_, by rw [HR.out.2.1, HR.out.2.2]; rfl, by rw [HR.out.1]; exact HV.out, HB.out⟩

theorem cellsT_at (L : List Tok) : ∀ (k : Nat) (h : k < L.length), (tokCells L)[k * 3]? = some (.int .i64 L[k].kind) ∧ (tokCells L)[k * 3 + 1]? = some (.string L[k].s) ∧ (tokCells L)[k * 3 + 2]? = some (.int .i64 L[k].n) := by
  induction L with
  | nil => intro k h; simp at h
  | cons t L ih =>
    intro k h
    cases k with
    | zero => exact ⟨rfl, rfl, rfl⟩
    | succ k =>
      have := ih k (by simpa using h)
      have e : ∀ j, (tokCells (t :: L))[(k + 1) * 3 + j]? = (tokCells L)[k * 3 + j]? := fun j => by
        rw [show (k + 1) * 3 + j = (k * 3 + j) + 3 by omega]; rfl
      exact ⟨(e 0).trans this.1, (e 1).trans this.2.1, (e 2).trans this.2.2⟩
/-- each token lies there -/
theorem ToksOwn.at {w : World} {base : Nat} {v : Value} {L : List Tok} (h : ToksOwn w base v L) (k : Nat) (hk : k < L.length) : ∃ b c, v = .slice (some ⟨b, 0, none⟩) L.length c ∧ b < w.heap.size ∧ L.length ≤ c ∧ w.cell? ⟨b, k * 3, none⟩ = some (.int .i64 L[k].kind) ∧ w.cell? ⟨b, k * 3 + 1, none⟩ = some (.string L[k].s) ∧ w.cell? ⟨b, k * 3 + 2, none⟩ = some (.int .i64 L[k].n) := by
  have h8 := h
  obtain ⟨hl, ⟨rfl, h2⟩ | ⟨b, cap, cur, rfl, q1, q2, q3, q4, _⟩⟩ := h
  · omega
  · obtain ⟨c0, c1, c2⟩ := cellsT_at L k hk
    exact ⟨b, cap, rfl, (Array.getElem?_eq_some_iff.1 q2).1, q3, (World.ownsRow.cellAt h8 _ (by omega)).trans c0, (World.ownsRow.cellAt h8 _ (by omega)).trans c1, (World.ownsRow.cellAt h8 _ (by omega)).trans c2⟩
end Go.Proofs.YtcbpjgnbdpfiiaaGreatDoor
