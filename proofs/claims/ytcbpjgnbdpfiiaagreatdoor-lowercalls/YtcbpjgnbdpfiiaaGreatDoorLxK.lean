/-
  THE LAW LowerCalls.
-/
import Derived.Test.YtcbpjgnbdpfiiaaGreatDoorLxJ
import Derived.Test.YtcbpjgnbdpfiiaaGreatDoorTkCheck
import Derived.Test.YtcbpjgnbdpfiiaaGreatDoorShelf2
import Derived.Laws.Concat
set_option linter.unusedVariables false
namespace Go.Proofs.YtcbpjgnbdpfiiaaGreatDoor
set_option maxRecDepth 100000
open Go.RowKit Go.WideShapes

theorem pk_natL {n : Int} {m : Nat} (h : 0 < m) : ∃ i : Nat, pk n m = i ∧ i < m := by
  have := pk_range (n := n) (many := m) (by omega)
  exact ⟨(pk n m).toNat, by omega, by omega⟩
theorem ToksOwn.liesM {w : World} {base : Nat} {v : Value} {L : List Tok} (h : ToksOwn w base v L) (h0 : 0 < L.length) : ∃ b c, v = .slice (some ⟨b, 0, none⟩) L.length c ∧ b < w.heap.size ∧ ToksL w b L := by
  obtain ⟨b, c, rfl, h1, h2, _⟩ := h.at 0 h0
  refine ⟨b, c, rfl, h1, fun k hk => ?_⟩
  obtain ⟨b', c', he, _, _, h3⟩ := h.at k hk
  simp only [Value.slice.injEq, Option.some.injEq, Addr.mk.injEq, true_and, and_true] at he
  obtain ⟨rfl, rfl⟩ := he
  exact h3
/-- a later world -/
structure KB (W0 W : World) : Prop where
  b : Below W0.heap.size W0 W
theorem KB.drew {W0 W : World} (h : KB W0 W) : KB W0 W.drew := ⟨h.b.drew⟩
theorem KB.alloc {W0 W : World} (h : KB W0 W) (o : Obj) : KB W0 (W.alloc o) := ⟨h.b.alloc h.b.size o⟩
theorem KB.go {W0 W W' : World} (h : KB W0 W) (h' : Below W.heap.size W W') : KB W0 W' := ⟨h.b.trans (h'.mono h.b.size)⟩
theorem ones_trim (k : Nat) (hk : k < 5) : Lib.trimSuffix (Lib.repeatL [49, 44] k) [44] = onesL k := by
  match k, hk with
  | 0, _ => rfl
  | 1, _ => rfl
  | 2, _ => rfl
  | 3, _ => rfl
  | 4, _ => rfl
theorem data_appC (t u : ByteArray) : (t ++ u).data.toList = t.data.toList ++ u.data.toList := by
  rw [ByteArray.data_append, Array.toList_append]
theorem ones_len (k : Nat) (hk : k < 5) : (onesL k).length ≤ 7 ∧ (Lib.repeatL [49, 44] k).length ≤ 8 := by
  match k, hk with
  | 0, _ => decide
  | 1, _ => decide
  | 2, _ => decide
  | 3, _ => decide
  | 4, _ => decide
theorem callK_pos (nm : ByteArray) (n : Nat) : 0 < (callK nm n).length := by
  unfold callK
  split <;> simp
theorem od_szX (j : Nat) (hj : j < 4) : (odX.getD j ⟨#[]⟩).size ≤ 20 := by
  match j, hj with
  | 0, _ => decide
  | 1, _ => decide
  | 2, _ => decide
  | 3, _ => decide
theorem nm_sz20 (i : Nat) (hi : i < 5) : (nmL.getD i ⟨#[]⟩).size ≤ 20 := by
  match i, hi with
  | 0, _ => decide
  | 1, _ => decide
  | 2, _ => decide
  | 3, _ => decide
  | 4, _ => decide
def nmCells : Array Value := #[.string ⟨#[99, 111, 117, 110, 116]⟩, .string ⟨#[99, 111, 110, 99, 97, 116]⟩, .string ⟨#[115, 117, 98, 115, 116, 114, 105, 110, 103]⟩, .string ⟨#[116, 114, 117, 101]⟩, .string ⟨#[100, 105, 115, 116, 105, 110, 99, 116, 45, 118, 97, 108, 117, 101, 115]⟩]
def nnCells : Array Value := #[.int .i64 1, .int .i64 2, .int .i64 3, .int .i64 0, .int .i64 1]
def odCells : Array Value := #[.string ⟨#[100, 100, 111, 40, 49, 41]⟩, .string ⟨#[110, 101, 103, 40, 49, 41]⟩, .string ⟨#[104, 111, 108, 100, 115, 40, 49, 44, 32, 49, 41]⟩, .string ⟨#[110, 111, 116, 104, 105, 110, 103, 40, 41]⟩]
theorem nmCells_at (i : Nat) (hi : i < 5) : nmCells[i]? = some (.string (nmL.getD i ⟨#[]⟩)) := by
  match i, hi with
  | 0, _ => rfl
  | 1, _ => rfl
  | 2, _ => rfl
  | 3, _ => rfl
  | 4, _ => rfl
theorem nnCells_at (i : Nat) (hi : i < 5) : nnCells[i]? = some (.int .i64 (nmN.getD i 0 : Nat)) := by
  match i, hi with
  | 0, _ => rfl
  | 1, _ => rfl
  | 2, _ => rfl
  | 3, _ => rfl
  | 4, _ => rfl
theorem odCells_at (i : Nat) (hi : i < 4) : odCells[i]? = some (.string (odX.getD i ⟨#[]⟩)) := by
  match i, hi with
  | 0, _ => rfl
  | 1, _ => rfl
  | 2, _ => rfl
  | 3, _ => rfl
theorem cell_of {w : World} {b i : Nat} {cs : Array Value} {T : TypeId} {v : Value} (h : w.heap[b]? = some (.cells cs T)) (hi : cs[i]? = some v) : w.cell? ⟨b, i, none⟩ = some v := by
  rw [World.cell?, h]
  simpa using hi
set_option maxHeartbeats 6400000 in
theorem lawLowerCalls (a n : Int) (w : World) (ha : -9223372036854775808 ≤ a ∧ a ≤ 9223372036854775807) (hn : -9223372036854775808 ≤ n ∧ n ≤ 9223372036854775807) (CR0 : ∀ (W : World) (c : Nat), c ≤ 9 → Calls Tryz.prog 8 #[.string ⟨#[49, 44]⟩, .int .i64 c] W fun e w' => e = .returned (.string ⟨(Lib.repeatL [49, 44] c).toArray⟩) ∧ Below W.heap.size W w')
    (hot : Tab3 w) (hT : Tabs w) (hm : MaxL w) (hM : MarkTab w) (hg : 0 < w.heap.size) :
    Calls Tryz.prog 3 #[.int .i64 a, .int .i64 n] w fun e w' => e = .returned (.bool true) ∧ Below w.heap.size w w' := by
  obtain ⟨i, hi, hi5⟩ := pk_natL (n := a) (m := 5) (by omega)
  obtain ⟨k, hk, hk5⟩ := pk_natL (n := n) (m := 5) (by omega)
  obtain ⟨j, hj, hj4⟩ := pk_natL (n := n) (m := 4) (by omega)
  have C1 : Hid (∀ W, Calls Tryz.prog 5 #[.int .i64 a, .int .i64 5] W fun e w' => e = .returned (.int .i64 i) ∧ W = w') := fun W => (picked_is a 5 W ha (by omega) (by omega)).mono fun e w' ⟨k1, k2⟩ => ⟨by rw [k1]; exact ret_int hi, k2.symm⟩
  have C2 : Hid (∀ W, Calls Tryz.prog 5 #[.int .i64 n, .int .i64 5] W fun e w' => e = .returned (.int .i64 k) ∧ W = w') := fun W => (picked_is n 5 W hn (by omega) (by omega)).mono fun e w' ⟨k1, k2⟩ => ⟨by rw [k1]; exact ret_int hk, k2.symm⟩
  have C3 : Hid (∀ W, Calls Tryz.prog 5 #[.int .i64 n, .int .i64 4] W fun e w' => e = .returned (.int .i64 j) ∧ W = w') := fun W => (picked_is n 4 W hn (by omega) (by omega)).mono fun e w' ⟨k1, k2⟩ => ⟨by rw [k1]; exact ret_int hj, k2.symm⟩
  obtain ⟨nm, hnm⟩ : ∃ nm, nm = nmL.getD i ⟨#[]⟩ := ⟨_, rfl⟩
  obtain ⟨na, hna⟩ : ∃ na, na = nmN.getD i 0 := ⟨_, rfl⟩
  obtain ⟨on, hon⟩ : ∃ on, on = odL.getD j ⟨#[]⟩ := ⟨_, rfl⟩
  obtain ⟨ok, hok⟩ : ∃ ok, ok = odN.getD j 0 := ⟨_, rfl⟩
  obtain ⟨ox, hox⟩ : ∃ ox, ox = odX.getD j ⟨#[]⟩ := ⟨_, rfl⟩
  have HC1 : Hid (nmCells[i]? = some (.string nm)) := by rw [hnm]; exact nmCells_at i hi5
  have HC2 : Hid (nnCells[i]? = some (.int .i64 (na : Int))) := by rw [hna]; exact nnCells_at i hi5
  have HC3 : Hid (odCells[j]? = some (.string ox)) := by rw [hox]; exact odCells_at j hj4
  obtain ⟨zr, hzr⟩ : ∃ z : ByteArray, z = ⟨(Lib.repeatL [49, 44] k).toArray⟩ := ⟨_, rfl⟩
  obtain ⟨zs, hzs⟩ : ∃ z : ByteArray, z = ⟨(onesL k).toArray⟩ := ⟨_, rfl⟩
  have hzrd : zr.data.toList = Lib.repeatL [49, 44] k := by rw [hzr]
  have hzsd : zs.data.toList = onesL k := by rw [hzs]
  have CR : Hid (∀ W0 W, KB W0 W → Calls Tryz.prog 8 #[.string ⟨#[49, 44]⟩, .int .i64 k] W fun e w' => e = .returned (.string zr) ∧ KB W0 w') := fun W0 W hW => by
    rw [hzr]
    exact (CR0 W k (by omega)).mono fun e w' ⟨k1, k2⟩ => ⟨k1, hW.go k2⟩
  have CS : Hid (∀ W0 W, KB W0 W → Calls Tryz.prog 7 #[.string zr, .string ⟨#[44]⟩] W fun e w' => e = .returned (.string zs) ∧ KB W0 w') := fun W0 W hW => by
    have hs : zr.size ≤ 9223372036854775807 := by
      have e : zr.data.toList.length = zr.size := rfl
      have := (ones_len k hk5).2
      rw [← e, hzrd]
      omega
    refine (Tryz.strings_TrimSuffix zr ⟨#[44]⟩ W hs).mono fun e w' ⟨k1, k2⟩ => ?_
    subst k2
    refine ⟨?_, hW⟩
    rw [k1, hzrd, hzs]
    show Ending.returned (.string ⟨(Lib.trimSuffix (Lib.repeatL [49, 44] k) [44]).toArray⟩) = _
    rw [ones_trim k hk5]
  have CC : Hid (∀ W0 W, KB W0 W → Below w.heap.size w W0 → Calls Tryz.prog 6 #[.string (nm ++ ⟨#[40]⟩ ++ zs ++ ⟨#[41]⟩)] W fun e w' => ∃ b c, e = .returned (.tuple #[.slice (some ⟨b, 0, none⟩) (callK nm k).length c, .int .i64 0, .int .i64 0]) ∧ KB W0 w' ∧ b < w'.heap.size ∧ ToksL w' b (callK nm k)) := fun W0 W hW h0 => by
    have hb : Below w.heap.size w W := h0.trans (hW.b.mono h0.size)
    obtain ⟨q, hq⟩ : ∃ q : ByteArray, q = nm ++ ⟨#[40]⟩ ++ zs ++ ⟨#[41]⟩ := ⟨_, rfl⟩
    have hqd : q.data.toList = (nmL.getD i ⟨#[]⟩).data.toList ++ [40] ++ onesL k ++ [41] := by rw [hq, data_appC, data_appC, data_appC, hzsd, hnm]
    have hqs : q.size ≤ 100 := by
      have e : q.data.toList.length = q.size := rfl
      have e2 : (nmL.getD i ⟨#[]⟩).data.toList.length = (nmL.getD i ⟨#[]⟩).size := rfl
      have h1 := nm_sz20 i hi5
      have h2 := (ones_len k hk5).1
      rw [← e, hqd, List.length_append, List.length_append, List.length_append, e2]
      simp only [List.length_cons, List.length_nil]
      omega
    have h := cut_is q W (by unfold maxLen; omega) (Utf8Tabs_below hT hb) (hm.below hb) (hM.below hb hg) (Nat.lt_of_lt_of_le hg hb.size)
    obtain ⟨d1, d2, d3⟩ := nm_cut i k hi5 hk5
    rw [← hq]
    rw [hqd, d1, d2, d3, ← hnm] at h
    refine h.mono fun e w' ⟨v, k1, k2, k3⟩ => ?_
    obtain ⟨b, c, rfl, hbl, htl⟩ := k2.liesM (callK_pos nm k)
    exact ⟨b, c, k1, hW.go k3, hbl, htl⟩
  have CO : Hid (∀ W0 W, KB W0 W → Below w.heap.size w W0 → Calls Tryz.prog 6 #[.string ox] W fun e w' => ∃ b c, e = .returned (.tuple #[.slice (some ⟨b, 0, none⟩) (callK on ok).length c, .int .i64 0, .int .i64 0]) ∧ KB W0 w' ∧ b < w'.heap.size ∧ ToksL w' b (callK on ok)) := fun W0 W hW h0 => by
    have hb : Below w.heap.size w W := h0.trans (hW.b.mono h0.size)
    have hs := od_szX j hj4
    have h := cut_is ox W (by rw [hox]; unfold maxLen; omega) (Utf8Tabs_below hT hb) (hm.below hb) (hM.below hb hg) (Nat.lt_of_lt_of_le hg hb.size)
    obtain ⟨d1, d2, d3⟩ := od_cut j hj4
    rw [hox, d1, d2, d3, ← hon, ← hok, ← hox] at h
    refine h.mono fun e w' ⟨v, k1, k2, k3⟩ => ?_
    obtain ⟨b, c, rfl, hbl, htl⟩ := k2.liesM (callK_pos on ok)
    exact ⟨b, c, k1, hW.go k3, hbl, htl⟩
  have CP : Hid (∀ W0 W b c, KB W0 W → Below w.heap.size w W0 → b < W.heap.size → ToksL W b (callK nm k) → Calls Tryz.prog 9 #[.slice (some ⟨b, 0, none⟩) (callK nm k).length c] W fun e w' => ∃ v, Tre w' 0 (callP nm k) v ∧ e = .returned (.tuple #[.agg v.toArray, .int .i64 0, .int .i64 0]) ∧ KB W0 w') := fun W0 W b c hW h0 hb ht => by
    have hl : Below w.heap.size w W := h0.trans (hW.b.mono h0.size)
    obtain ⟨p1, p2, p3, p4⟩ := nm_ok i hi5
    rw [← hnm] at p1 p2 p3 p4
    exact (parse_call nm k (by omega) p1 p2 p3 p4 b c W hb ht (hot.below hl) (Utf8Tabs_below hT hl) (hM.below hl hg) (Nat.lt_of_lt_of_le hg hl.size)).mono fun e w' ⟨v, k1, k2, k3⟩ => ⟨v, k1.mono (Nat.zero_le _), k2, hW.go k3⟩
  have CQ : Hid (∀ W0 W b c, KB W0 W → Below w.heap.size w W0 → b < W.heap.size → ToksL W b (callK on ok) → Calls Tryz.prog 9 #[.slice (some ⟨b, 0, none⟩) (callK on ok).length c] W fun e w' => ∃ v, Tre w' 0 (callP on ok) v ∧ e = .returned (.tuple #[.agg v.toArray, .int .i64 0, .int .i64 0]) ∧ KB W0 w') := fun W0 W b c hW h0 hb ht => by
    have hl : Below w.heap.size w W := h0.trans (hW.b.mono h0.size)
    obtain ⟨p1, p2, p3, p4, p5⟩ := od_ok j hj4
    rw [← hon] at p1 p2 p3 p4
    rw [← hok] at p5
    exact (parse_call on ok (by omega) p1 p2 p3 p4 b c W hb ht (hot.below hl) (Utf8Tabs_below hT hl) (hM.below hl hg) (Nat.lt_of_lt_of_le hg hl.size)).mono fun e w' ⟨v, k1, k2, k3⟩ => ⟨v, k1.mono (Nat.zero_le _), k2, hW.go k3⟩
  obtain ⟨R, hR⟩ : ∃ R : Int, R = lowR i k := ⟨_, rfl⟩
  have CL : Hid (∀ W0 W v, KB W0 W → Below w.heap.size w W0 → Tre W 0 (callP nm k) v → Calls Tryz.prog 10 #[.agg v.toArray] W fun e w' => ∃ x, ExV x ∧ e = .returned (.tuple #[x, .int .i64 R]) ∧ KB W0 w') := fun W0 W v hW h0 hv => by
    rw [hR]
    exact (nm_low i k hi5 hk5 v W 0 (hnm ▸ hv) (Utf8Tabs_below hT (h0.trans (hW.b.mono h0.size)))).mono fun e w' ⟨x, k1, k2, k3⟩ => ⟨x, k1, k2, hW.go k3⟩
  have CM : Hid (∀ W0 W v, KB W0 W → Below w.heap.size w W0 → Tre W 0 (callP on ok) v → Calls Tryz.prog 10 #[.agg v.toArray] W fun e w' => ∃ x, ExV x ∧ e = .returned (.tuple #[x, .int .i64 6]) ∧ KB W0 w') := fun W0 W v hW h0 hv => by
    have hv' := hv
    rw [hon, hok] at hv'
    exact (od_low j hj4 v W 0 hv' (Utf8Tabs_below hT (h0.trans (hW.b.mono h0.size)))).mono fun e w' ⟨x, k1, k2, k3⟩ => ⟨x, k1, k2, hW.go k3⟩
  have HRR : Hid (R = if k = na then 0 else 11) := by rw [hR, hna]; rfl
  obtain ⟨P, hP⟩ : ∃ P, P = callP nm k := ⟨_, rfl⟩
  obtain ⟨Q, hQ⟩ : ∃ Q, Q = callP on ok := ⟨_, rfl⟩
  obtain ⟨T, hTT⟩ : ∃ T, T = callK nm k := ⟨_, rfl⟩
  obtain ⟨U, hUU⟩ : ∃ U, U = callK on ok := ⟨_, rfl⟩
  rw [← hTT] at CC CP
  rw [← hUU] at CO CQ
  rw [← hP] at CP CL
  rw [← hQ] at CQ CM
  have hs1 : nm.size ≤ 20 := by rw [hnm]; exact nm_sz20 i hi5
  have hs2 : zs.size ≤ 7 := by
    have e : zs.data.toList.length = zs.size := rfl
    rw [← e, hzsd]
    exact (ones_len k hk5).1
  have hq1 : ¬ 9223372036854775807 < nm.size + 1 := by omega
  have hq2 : ¬ 9223372036854775807 < nm.size + 1 + zs.size := by omega
  have hq3 : ¬ 9223372036854775807 < nm.size + 1 + zs.size + 1 := by omega
  clear hi hk hj hnm hna hon hok hox hzr hzs hzrd hzsd hR hP hQ hTT hUU hot hT hm hM hg ha hn CR0
  have hi5' : (i : Int) < 5 := by omega
  have hj4' : (j : Int) < 4 := by omega
  go_enter Tryz.func3, Tryz.ntmps3
  go_upto_region 5 with (first
    | (go_at_call 5; refine (C1.out _).mono ?_; rintro e w1 ⟨rfl, rfl⟩; clear C1)
    | (go_at_call 5; refine (C2.out _).mono ?_; rintro e w1 ⟨rfl, rfl⟩; clear C2))
  obtain ⟨W0, hW0⟩ : ∃ W, W = (w.alloc (.cells nmCells 9)).alloc (.cells nnCells 3) := ⟨_, rfl⟩
  have H1 : Hid (W0.heap[w.heap.size]? = some (.cells nmCells 9)) := by rw [hW0]; exact aOld (aNew rfl)
  have H2 : Hid (W0.heap[w.heap.size + 1]? = some (.cells nnCells 3)) := by rw [hW0]; exact aNew (by simp)
  have HB0 : Hid (Below w.heap.size w W0) := by rw [hW0]; exact ((Below.refl _ _).alloc (Nat.le_refl _) _).alloc (by simp) _
  have HK0 : Hid (KB W0 W0) := ⟨Below.refl _ _⟩
  have hz0 : w.heap.size + 1 < W0.heap.size := (Array.getElem?_eq_some_iff.1 H2.out).1
  have hz00 : w.heap.size < W0.heap.size := by omega
  unfold nmCells nnCells at hW0
  rw [← hW0]
  clear hW0
  have c1 : W0.cell? ⟨w.heap.size, i, none⟩ = some (.string nm) := cell_of H1.out HC1.out
  have HS1 : Hid (∀ W, KB W0 W → W.cell? ⟨w.heap.size, i, none⟩ = some (.string nm)) := fun W hW => (hW.b.cell (p := ⟨w.heap.size, i, none⟩) hz00).trans (cell_of H1.out HC1.out)
  have HS2 : Hid (∀ W, KB W0 W → W.cell? ⟨w.heap.size + 1, i, none⟩ = some (.int .i64 na)) := fun W hW => (hW.b.cell (p := ⟨w.heap.size + 1, i, none⟩) hz0).trans (cell_of H2.out HC2.out)
  go_region_held3 (fun W => W.cell? ⟨w.heap.size, i, none⟩ = some (.string nm))
    ((refine HS1.out _ ?_; repeat (first | with_reducible exact Hid.out (by with_reducible assumption) | with_reducible refine KB.drew ?_)))
    (first
      | (go_at_call 8; refine (CR.out W0 _ ?_).mono ?_; (focus (repeat (first | with_reducible exact Hid.out (by with_reducible assumption) | with_reducible refine KB.drew ?_))); rintro e w2 ⟨rfl, hk2⟩; have HK2 : Hid (KB W0 w2) := hk2; clear hk2 CR)
      | (go_at_call 7; refine (CS.out W0 _ ?_).mono ?_; (focus (repeat (first | with_reducible exact Hid.out (by with_reducible assumption) | with_reducible refine KB.drew ?_))); rintro e w3 ⟨rfl, hk3⟩; have HK3 : Hid (KB W0 w3) := hk3; clear hk3 CS)
      | (go_at_call 6; refine (CC.out W0 _ ?_ HB0.out).mono ?_; (focus (repeat (first | with_reducible exact Hid.out (by with_reducible assumption) | with_reducible refine KB.drew ?_))); rintro e w4 ⟨b, c, rfl, hk4, hb4, ht4⟩; have HK4 : Hid (KB W0 w4) := hk4; have HB4 := HidOf hb4; have HT4 : Hid (ToksL w4 b T) := ht4; clear hk4 hb4 ht4 CC))
  all_goals
    go_upto_region 7 with (go_at_call 9; refine (CP.out W0 _ _ _ HK4.out HB0.out HB4.out HT4.out).mono ?_; rintro e w5 ⟨v5, hv5, rfl, hk5⟩; obtain ⟨k0, k1, k2, k5, k6, k7, s3, s4, s8, a9, a10, l9, c9, l10, c10, rfl⟩ := hv5.form; have HK5 : Hid (KB W0 w5) := hk5; have HV5 := HidOf hv5; clear hv5 hk5 CP)
    obtain ⟨W6, hW6⟩ : ∃ W, W = w5.alloc (.cells #[.int .i64 k0, .int .i64 k1, .int .i64 k2, .string s3, .string s4, .int .i64 k5, .int .i64 k6, .int .i64 k7, .string s8, .slice a9 l9 c9, .slice a10 l10 c10] 38) := ⟨_, rfl⟩
    have HK6 : Hid (KB W0 W6) := by rw [hW6]; exact HK5.out.alloc _
    have HV6 : Hid (Tre W6 0 P [.int .i64 k0, .int .i64 k1, .int .i64 k2, .string s3, .string s4, .int .i64 k5, .int .i64 k6, .int .i64 k7, .string s8, .slice a9 l9 c9, .slice a10 l10 c10]) := by rw [hW6]; exact HV5.out.allocI _
    have HP6 : Hid (W6.heap[w5.heap.size]? = some (.cells #[.int .i64 k0, .int .i64 k1, .int .i64 k2, .string s3, .string s4, .int .i64 k5, .int .i64 k6, .int .i64 k7, .string s8, .slice a9 l9 c9, .slice a10 l10 c10] 38)) := by rw [hW6]; exact heap_alloc_new _ _
    rw [← hW6]
    clear hW6
    obtain ⟨p0, p1, p2, p3, p4, p5, p6, p7, p8, p9, p10, _, _⟩ := bk11 HP6.out
    go_upto_region 8 with (go_at_call 10; refine (CL.out W0 _ [.int .i64 k0, .int .i64 k1, .int .i64 k2, .string s3, .string s4, .int .i64 k5, .int .i64 k6, .int .i64 k7, .string s8, .slice a9 l9 c9, .slice a10 l10 c10] HK6.out HB0.out HV6.out).mono ?_; rintro e w7 ⟨x, ⟨x0, x1, x2, x6, x7, x8, y3, y4, y5, y9, b10, l10', c10', rfl⟩, rfl, hk7⟩; have HK7 : Hid (KB W0 w7) := hk7; clear hk7 CL)
    clear p0 p1 p2 p3 p4 p5 p6 p7 p8 p9 p10
    obtain ⟨W8, hW8⟩ : ∃ W, W = w7.alloc (.cells #[.int .i64 x0, .int .i64 x1, .int .i64 x2, .string y3, .string y4, .string y5, .int .i64 x6, .int .i64 x7, .int .i64 x8, .string y9, .slice b10 l10' c10'] 43) := ⟨_, rfl⟩
    have HK8 : Hid (KB W0 W8) := by rw [hW8]; exact HK7.out.alloc _
    rw [← hW8]
    clear hW8
    have c2 : (W8.alloc (.cells odCells 9)).cell? ⟨W8.heap.size, j, none⟩ = some (.string ox) := cell_of (heap_alloc_new _ _) HC3.out
    unfold odCells at c2
    have HK9 : Hid (KB W0 (W8.alloc (.cells odCells 9))) := HK8.out.alloc _
    unfold odCells at HK9
    go_upto_region 9 with (first
      | (go_at_call 5; refine (C3.out _).mono ?_; rintro e w1 ⟨rfl, rfl⟩; clear C3)
      | (go_at_call 6; refine (CO.out W0 _ HK9.out HB0.out).mono ?_; rintro e w9 ⟨b2, c2', rfl, hk9, hb9, ht9⟩; have HK10 : Hid (KB W0 w9) := hk9; have HB10 := HidOf hb9; have HT10 : Hid (ToksL w9 b2 U) := ht9; clear hk9 hb9 ht9 CO))
    clear c2
    go_upto_region 10 with (go_at_call 9; refine (CQ.out W0 _ _ _ HK10.out HB0.out HB10.out HT10.out).mono ?_; rintro e w11 ⟨v11, hv11, rfl, hk11⟩; obtain ⟨q0, q1, q2, q5, q6, q7, r3, r4, r8, d9, d10, m9, f9, m10, f10, rfl⟩ := hv11.form; have HK11 : Hid (KB W0 w11) := hk11; have HV11 := HidOf hv11; clear hv11 hk11 CQ)
    obtain ⟨W12, hW12⟩ : ∃ W, W = w11.alloc (.cells #[.int .i64 q0, .int .i64 q1, .int .i64 q2, .string r3, .string r4, .int .i64 q5, .int .i64 q6, .int .i64 q7, .string r8, .slice d9 m9 f9, .slice d10 m10 f10] 38) := ⟨_, rfl⟩
    have HK12 : Hid (KB W0 W12) := by rw [hW12]; exact HK11.out.alloc _
    have HV12 : Hid (Tre W12 0 Q [.int .i64 q0, .int .i64 q1, .int .i64 q2, .string r3, .string r4, .int .i64 q5, .int .i64 q6, .int .i64 q7, .string r8, .slice d9 m9 f9, .slice d10 m10 f10]) := by rw [hW12]; exact HV11.out.allocI _
    have HP12 : Hid (W12.heap[w11.heap.size]? = some (.cells #[.int .i64 q0, .int .i64 q1, .int .i64 q2, .string r3, .string r4, .int .i64 q5, .int .i64 q6, .int .i64 q7, .string r8, .slice d9 m9 f9, .slice d10 m10 f10] 38)) := by rw [hW12]; exact heap_alloc_new _ _
    rw [← hW12]
    clear hW12
    obtain ⟨p0, p1, p2, p3, p4, p5, p6, p7, p8, p9, p10, _, _⟩ := bk11 HP12.out
    go_upto_region 11 with (go_at_call 10; refine (CM.out W0 _ [.int .i64 q0, .int .i64 q1, .int .i64 q2, .string r3, .string r4, .int .i64 q5, .int .i64 q6, .int .i64 q7, .string r8, .slice d9 m9 f9, .slice d10 m10 f10] HK12.out HB0.out HV12.out).mono ?_; rintro e w13 ⟨x, ⟨u0, u1, u2, u6, u7, u8, v3, v4, v5', v9, g10, l10'', c10'', rfl⟩, rfl, hk13⟩; have HK13 : Hid (KB W0 w13) := hk13; clear hk13 CM)
    clear p0 p1 p2 p3 p4 p5 p6 p7 p8 p9 p10
    obtain ⟨W14, hW14⟩ : ∃ W, W = w13.alloc (.cells #[.int .i64 u0, .int .i64 u1, .int .i64 u2, .string v3, .string v4, .string v5', .int .i64 u6, .int .i64 u7, .int .i64 u8, .string v9, .slice g10 l10'' c10''] 43) := ⟨_, rfl⟩
    have HK14 : Hid (KB W0 W14) := by rw [hW14]; exact HK13.out.alloc _
    rw [← hW14]
    clear hW14
    have c3 : W14.cell? ⟨w.heap.size + 1, i, none⟩ = some (.int .i64 na) := HS2.out W14 HK14.out
    by_cases hkn : k = na
    · have hr : R = 0 := by rw [HRR.out, if_pos hkn]
      subst hr
      subst hkn
      clear HRR
      go_wp2
      go_ret
      exact ⟨rfl, HB0.out.trans (HK14.out.b.mono HB0.out.size)⟩
    · have hr : R = 11 := by rw [HRR.out, if_neg hkn]
      subst hr
      have hk2 : ((k : Int) == (na : Int)) = false := by simp; omega
      have hk3 : ¬ (k : Int) = (na : Int) := by omega
      clear HRR
      go_wp2
      go_ret
      exact ⟨rfl, HB0.out.trans (HK14.out.b.mono HB0.out.size)⟩
end Go.Proofs.YtcbpjgnbdpfiiaaGreatDoor
