/-
  CONTRACT of pleacherkeep.spoken.
-/
import Derived.Test.YtbpggpnmbfjadaaDoorPkIto
import Derived.Test.YtbpggpnmbfjadaaDoorBuild
import Derived.Test.YtbpggpnmbfjadaaDoorTcCut
import Derived.Test.YtbpggpnmbfjadaaDoorRows
import Derived.ProofKit
import Derived.OpenShut
import Derived.WalkKit
import Derived.WalkSpells
import Derived.WalkLawsBesides
import Derived.Outline
set_option linter.unusedVariables false
namespace Go.Proofs.YtbpggpnmbfjadaaDoor
set_option maxRecDepth 100000
open Go.RowKit

theorem mark_len : ∀ m ∈ marksL, m.length ≤ 2 := by decide
theorem tok_bounds {t : Tok} (h : tokF t.kind t.s t.n = 0) : (1 ≤ t.kind ∧ t.kind ≤ 5) ∧ t.s.size ≤ 20000 ∧ (t.kind = 2 → 0 ≤ t.n ∧ t.n ≤ 1099511627776) ∧ (spk t).length ≤ 20002 := by
  have hl : t.s.data.toList.length = t.s.size := rfl
  unfold tokF at h
  by_cases c0 : ¬ (1 ≤ t.kind ∧ t.kind ≤ 5)
  · rw [if_pos c0] at h; cases h
  rw [if_neg c0] at h
  have c0' : 1 ≤ t.kind ∧ t.kind ≤ 5 := by omega
  by_cases c2 : t.kind = 2
  · rw [if_pos c2] at h
    by_cases c3 : t.n < 0 ∨ 1099511627776 < t.n
    · rw [if_pos c3] at h; cases h
    rw [if_neg c3] at h
    by_cases c4 : t.s.size ≠ 0
    · rw [if_pos c4] at h; cases h
    refine ⟨c0', by omega, fun _ => by omega, ?_⟩
    unfold spk
    rw [if_pos c2]
    have := itoa_small (n := t.n.toNat) (by omega)
    omega
  rw [if_neg c2] at h
  by_cases c5 : t.n ≠ 0
  · rw [if_pos c5] at h; cases h
  rw [if_neg c5] at h
  have hz : t.s.size ≤ 20000 := by
    by_cases c3 : t.kind = 3
    · rw [if_pos c3] at h
      by_cases cq : hasQ t.s.data.toList = true
      · rw [if_pos cq] at h; cases h
      rw [if_neg cq] at h
      by_cases cz : 20000 < t.s.size
      · rw [textF_size cz] at h; cases h
      · omega
    rw [if_neg c3] at h
    by_cases c6 : t.kind = 5
    · rw [if_pos c6] at h
      by_cases cm : isMk t.s.data.toList = true
      · unfold isMk at cm
        rw [List.contains_iff_mem] at cm
        have := mark_len _ cm
        omega
      · rw [if_neg cm] at h; cases h
    rw [if_neg c6] at h
    by_cases cn : nmB t.s = true
    · unfold nmB at cn
      simp only [Bool.and_eq_true, decide_eq_true_eq] at cn
      omega
    · rw [if_neg cn] at h; cases h
  refine ⟨c0', hz, fun h => absurd h c2, ?_⟩
  unfold spk
  rw [if_neg c2]
  split
  · simp; omega
  · split
    · simp; omega
    · omega
theorem spoke_succ (L : List Tok) (k : Nat) (h : k < L.length) : spoke (L.take (k + 1)) = spoke (L.take k) ++ spk L[k] ++ [32] := by
  rw [List.take_succ_eq_append_getElem h]
  unfold spoke
  rw [List.flatMap_append, List.flatMap_cons, List.flatMap_nil, List.append_nil, List.append_assoc]
theorem spoke_len (L : List Tok) (hg : ∀ t ∈ L, tokF t.kind t.s t.n = 0) : (spoke L).length ≤ L.length * 20003 := by
  induction L with
  | nil => simp [spoke]
  | cons t L ih =>
    rw [spoke_cons, List.length_append, List.length_cons, List.length_cons]
    have h1 := (tok_bounds (hg t (by simp))).2.2.2
    have h2 := ih fun u hu => hg u (by simp [hu])
    omega
theorem writeS_any (B b : Nat) (T : List UInt8) (s : ByteArray) (W : World) (h : Lib.IsBuilderF 44 5 B b (Lib.byteCells T) W) (hl : T.length + s.size ≤ 140737488355328) (hB : B ≤ W.heap.size) :
    Calls Tryd.prog 14 #[.pointer (some ⟨b, 0, none⟩), .string s] W fun e w' => e = .returned (.tuple #[.int .i64 s.size, .nilIface]) ∧ Lib.IsBuilderF 44 5 B b (Lib.byteCells (T ++ s.data.toList)) w' ∧ Below B W w' := by
  refine (Tryd.Builder_WriteString_k B b (Lib.byteCells T) s W h (by rw [Lib.byteCells_length]; exact hl) hB).mono ?_
  rintro e w' ⟨rfl, h1, h2, h3⟩
  refine ⟨rfl, .inr ?_, h2⟩
  rw [Lib.byteCells_append, ← Lib.strCells_eq]
  exact h1
theorem writeB_any (B b : Nat) (T : List UInt8) (W : World) (h : Lib.IsBuilderF 44 5 B b (Lib.byteCells T) W) (hl : T.length + 1 ≤ 140737488355328) (hB : B ≤ W.heap.size) :
    Calls Tryd.prog 16 #[.pointer (some ⟨b, 0, none⟩), .int .u8 32] W fun e w' => e = .returned .nilIface ∧ Lib.IsBuilderF 44 5 B b (Lib.byteCells (T ++ [32])) w' ∧ Below B W w' := by
  refine (Tryd.Builder_WriteByte_k B b (Lib.byteCells T) 32 W h (by rw [Lib.byteCells_length]; exact hl) hB).mono ?_
  rintro e w' ⟨rfl, h1, h2, h3⟩
  refine ⟨rfl, .inr ?_, h2⟩
  rw [Lib.byteCells_append]
  exact h1
theorem ret_strL {a b : ByteArray} (h : a.data.toList = b.data.toList) : Ending.returned (.string a) = .returned (.string b) := by
  have : a = b := by
    cases a; cases b
    simpa using h
  rw [this]
set_option maxHeartbeats 3200000 in
theorem spoken_is (v : Value) (L : List Tok) (base : Nat) (w : World) (h : ToksOwn w base v L) (hL : L.length ≤ 200) (hg : ∀ t ∈ L, tokF t.kind t.s t.n = 0) :
    Calls Tryd.prog 7 #[v] w fun e w' => e = .returned (.string ⟨(spoke L).toArray⟩) ∧ Below w.heap.size w w' := by
  obtain ⟨a, c, rfl⟩ := own_shape h
  have HO : Hid (∀ k (hk : k < L.length), ∃ b, a = some ⟨b, 0, none⟩ ∧ b < w.heap.size ∧ L.length ≤ c ∧ w.cell? ⟨b, k * 3, none⟩ = some (.int .i64 L[k].kind) ∧ w.cell? ⟨b, k * 3 + 1, none⟩ = some (.string L[k].s) ∧ w.cell? ⟨b, k * 3 + 2, none⟩ = some (.int .i64 L[k].n)) := fun k hk => by
    obtain ⟨b, c', he, h1, h2, h3, h4, h5⟩ := h.at k hk
    simp only [Value.slice.injEq, true_and] at he
    obtain ⟨rfl, rfl⟩ := he
    exact ⟨b, rfl, h1, h2, h3, h4, h5⟩
  have HG : Hid (∀ k (hk : k < L.length), tokF L[k].kind L[k].s L[k].n = 0) := fun k hk => hg _ (List.getElem_mem hk)
  have HSL : Hid (∀ k, k ≤ L.length → (spoke (L.take k)).length ≤ 4000600) := fun k hk => by
    have h1 := spoke_len (L.take k) fun t ht => hg t (List.mem_of_mem_take ht)
    rw [List.length_take] at h1
    have : min k L.length * 20003 ≤ 200 * 20003 := Nat.mul_le_mul_right _ (by omega)
    omega
  clear h hg
  go_enter Tryd.func7, Tryd.ntmps7
  go_wp2
  go_loopw [8] (fun i wr => ∃ k : Nat, k ≤ L.length ∧ i = .int .i64 k ∧ Lib.IsBuilderF 44 5 w.heap.size w.heap.size (Lib.byteCells (spoke (L.take k))) wr ∧ Below w.heap.size w wr) (fun i _ => L.length - (intOf i).toNat)
  case atStart =>
    refine ⟨0, Nat.zero_le _, rfl, ?_, (Below.refl _ _).alloc (Nat.le_refl _) _⟩
    refine Lib.IsBuilderF.of (.inl ⟨Nat.le_refl _, .slice none 0 0, ?_, World.ownsRow_nil _ _ _ _, by simp [Value.ownBlock]⟩)
    exact heap_alloc_new _ _
  case round =>
    obtain ⟨k, hk, rfl, hbl, hbw⟩ := hrel
    have HBW : Hid (Below w.heap.size w wr) := hbw
    have hsz : w.heap.size ≤ wr.heap.size := hbw.size
    by_cases hlt : k < L.length
    · obtain ⟨b, rfl, hb, hc, c0, c1, c2⟩ := HO.out k hlt
      have x0 := (hbw.cell (p := ⟨b, k * 3, none⟩) hb).trans c0
      have x1 := (hbw.cell (p := ⟨b, k * 3 + 1, none⟩) hb).trans c1
      have x2 := (hbw.cell (p := ⟨b, k * 3 + 2, none⟩) hb).trans c2
      have hki : (k : Int) < (L.length : Int) := by omega
      have hbr : b < wr.heap.size := by omega
      obtain ⟨⟨kd, s, nn⟩, ht⟩ : ∃ t, t = L[k] := ⟨_, rfl⟩
      have hgt := HG.out k hlt
      have HSS : Hid (spoke (L.take (k + 1)) = spoke (L.take k) ++ spk ⟨kd, s, nn⟩ ++ [32]) := by rw [ht]; exact spoke_succ L k hlt
      rw [← ht] at x0 x1 x2 hgt
      obtain ⟨hkd, hs, hnn, hsp⟩ := tok_bounds hgt
      simp only at x0 x1 x2 hgt hkd hs hnn
      obtain ⟨o, ho⟩ : ∃ o : Obj, o = .cells #[.int .i64 kd, .string s, .int .i64 nn] 29 := ⟨_, rfl⟩
      have HT := HSL.out k hk
      have CW : Hid (∀ X : ByteArray, X.data.toList = spk ⟨kd, s, nn⟩ → Calls Tryd.prog 14 #[.pointer (some ⟨w.heap.size, 0, none⟩), .string X] (wr.alloc (.cells #[.int .i64 kd, .string s, .int .i64 nn] 29)) fun e w' => ∃ z : Int, e = .returned (.tuple #[.int .i64 z, .nilIface]) ∧ Lib.IsBuilderF 44 5 w.heap.size w.heap.size (Lib.byteCells (spoke (L.take k) ++ spk ⟨kd, s, nn⟩)) w' ∧ Below w.heap.size w w') := fun X hX => by
        have hxl : X.data.toList.length = X.size := rfl
        have hq : X.size ≤ 20002 := by rw [← hxl, hX]; exact hsp
        have := writeS_any w.heap.size w.heap.size (spoke (L.take k)) X (wr.alloc (.cells #[.int .i64 kd, .string s, .int .i64 nn] 29)) (hbl.alloc _) (by omega) (by simp; omega)
        refine this.mono ?_
        rintro e w' ⟨rfl, h1, h2⟩
        rw [hX] at h1
        exact ⟨_, rfl, h1, (hbw.alloc hsz _).trans h2⟩
      have CB : Hid (∀ W, Lib.IsBuilderF 44 5 w.heap.size w.heap.size (Lib.byteCells (spoke (L.take k) ++ spk ⟨kd, s, nn⟩)) W → Below w.heap.size w W → Calls Tryd.prog 16 #[.pointer (some ⟨w.heap.size, 0, none⟩), .int .u8 32] W fun e w' => e = .returned .nilIface ∧ Lib.IsBuilderF 44 5 w.heap.size w.heap.size (Lib.byteCells (spoke (L.take (k + 1)))) w' ∧ Below w.heap.size w w') := fun W hW hb => by
        rw [HSS.out]
        refine (writeB_any w.heap.size w.heap.size _ W hW (by rw [List.length_append]; omega) hb.size).mono ?_
        rintro e w' ⟨rfl, h1, h2⟩
        exact ⟨rfl, h1, hb.trans h2⟩
      clear hbl hbw ho HSS hsp hgt
      by_cases k2 : kd = 2
      · subst k2
        obtain ⟨hn0, hn1⟩ := hnn rfl
        obtain ⟨m, rfl⟩ : ∃ m : Nat, nn = (m : Int) := ⟨nn.toNat, by omega⟩
        have CI : Hid (∀ W, Calls Tryd.prog 15 #[.int .i64 m] W fun e w' => e = .returned (.string ⟨(itoaL m).toArray⟩) ∧ W = w') := fun W => (itoa_is W m (by omega)).mono fun e w' ⟨h1, h2⟩ => ⟨h1, h2.symm⟩
        have C1 : Hid (Calls Tryd.prog 14 #[.pointer (some ⟨w.heap.size, 0, none⟩), .string ⟨(itoaL m).toArray⟩] (wr.alloc (.cells #[.int .i64 2, .string s, .int .i64 m] 29)) fun e w' => ∃ z : Int, e = .returned (.tuple #[.int .i64 z, .nilIface]) ∧ Lib.IsBuilderF 44 5 w.heap.size w.heap.size (Lib.byteCells (spoke (L.take k) ++ spk ⟨2, s, m⟩)) w' ∧ Below w.heap.size w w') := CW.out _ rfl
        generalize (⟨(itoaL m).toArray⟩ : ByteArray) = zi at CI C1
        clear CW
        go_wp2_with (first
          | (go_at_call 15; refine (CI.out _).mono ?_; rintro e w2 ⟨rfl, rfl⟩)
          | (go_at_call 14; refine C1.out.mono ?_; rintro e w3 ⟨z3, rfl, h3, hb3⟩; have HU3 : Hid (Lib.IsBuilderF 44 5 w.heap.size w.heap.size (Lib.byteCells (spoke (L.take k) ++ spk ⟨2, s, m⟩)) w3) := h3; have HB3 : Hid (Below w.heap.size w w3) := hb3; clear h3 hb3)
          | (go_at_call 16; refine (CB.out _ HU3.out HB3.out).mono ?_; rintro e w4 ⟨rfl, h4, hb4⟩))
        go_roundw
        case rel => exact ⟨k + 1, by omega, by go_num, h4, hb4⟩
        case measure => simp [intOf]; omega
      · by_cases k3 : kd = 3
        · subst k3
          have C1 : Hid (Calls Tryd.prog 14 #[.pointer (some ⟨w.heap.size, 0, none⟩), .string (⟨#[34]⟩ ++ s ++ ⟨#[34]⟩)] (wr.alloc (.cells #[.int .i64 3, .string s, .int .i64 nn] 29)) fun e w' => ∃ z : Int, e = .returned (.tuple #[.int .i64 z, .nilIface]) ∧ Lib.IsBuilderF 44 5 w.heap.size w.heap.size (Lib.byteCells (spoke (L.take k) ++ spk ⟨3, s, nn⟩)) w' ∧ Below w.heap.size w w') := CW.out _ (by rw [ByteArray.data_append, Array.toList_append, ByteArray.data_append, Array.toList_append]; rfl)
          clear CW
          go_wp2_with (first
            | (go_at_call 14; refine C1.out.mono ?_; rintro e w3 ⟨z3, rfl, h3, hb3⟩; have HU3 : Hid (Lib.IsBuilderF 44 5 w.heap.size w.heap.size (Lib.byteCells (spoke (L.take k) ++ spk ⟨3, s, nn⟩)) w3) := h3; have HB3 : Hid (Below w.heap.size w w3) := hb3; clear h3 hb3)
            | (go_at_call 16; refine (CB.out _ HU3.out HB3.out).mono ?_; rintro e w4 ⟨rfl, h4, hb4⟩))
          go_roundw
          case rel => exact ⟨k + 1, by omega, by go_num, h4, hb4⟩
          case measure => simp [intOf]; omega
        · by_cases k4 : kd = 4
          · subst k4
            have C1 : Hid (Calls Tryd.prog 14 #[.pointer (some ⟨w.heap.size, 0, none⟩), .string (⟨#[36]⟩ ++ s)] (wr.alloc (.cells #[.int .i64 4, .string s, .int .i64 nn] 29)) fun e w' => ∃ z : Int, e = .returned (.tuple #[.int .i64 z, .nilIface]) ∧ Lib.IsBuilderF 44 5 w.heap.size w.heap.size (Lib.byteCells (spoke (L.take k) ++ spk ⟨4, s, nn⟩)) w' ∧ Below w.heap.size w w') := CW.out _ (by rw [ByteArray.data_append, Array.toList_append]; rfl)
            clear CW
            go_wp2_with (first
              | (go_at_call 14; refine C1.out.mono ?_; rintro e w3 ⟨z3, rfl, h3, hb3⟩; have HU3 : Hid (Lib.IsBuilderF 44 5 w.heap.size w.heap.size (Lib.byteCells (spoke (L.take k) ++ spk ⟨4, s, nn⟩)) w3) := h3; have HB3 : Hid (Below w.heap.size w w3) := hb3; clear h3 hb3)
              | (go_at_call 16; refine (CB.out _ HU3.out HB3.out).mono ?_; rintro e w4 ⟨rfl, h4, hb4⟩))
            go_roundw
            case rel => exact ⟨k + 1, by omega, by go_num, h4, hb4⟩
            case measure => simp [intOf]; omega
          · have C1 : Hid (Calls Tryd.prog 14 #[.pointer (some ⟨w.heap.size, 0, none⟩), .string s] (wr.alloc (.cells #[.int .i64 kd, .string s, .int .i64 nn] 29)) fun e w' => ∃ z : Int, e = .returned (.tuple #[.int .i64 z, .nilIface]) ∧ Lib.IsBuilderF 44 5 w.heap.size w.heap.size (Lib.byteCells (spoke (L.take k) ++ spk ⟨kd, s, nn⟩)) w' ∧ Below w.heap.size w w') := CW.out _ (by unfold spk; rw [if_neg k2, if_neg k3, if_neg k4])
            clear CW
            go_wp2_with (first
              | (go_at_call 14; refine C1.out.mono ?_; rintro e w3 ⟨z3, rfl, h3, hb3⟩; have HU3 : Hid (Lib.IsBuilderF 44 5 w.heap.size w.heap.size (Lib.byteCells (spoke (L.take k) ++ spk ⟨kd, s, nn⟩)) w3) := h3; have HB3 : Hid (Below w.heap.size w w3) := hb3; clear h3 hb3)
              | (go_at_call 16; refine (CB.out _ HU3.out HB3.out).mono ?_; rintro e w4 ⟨rfl, h4, hb4⟩))
            go_roundw
            case rel => exact ⟨k + 1, by omega, by go_num, h4, hb4⟩
            case measure => simp [intOf]; omega
    · have hke : k = L.length := by omega
      have hki : ¬ ((k : Int) < (L.length : Int)) := by omega
      have CS : Hid (Calls Tryd.prog 17 #[.pointer (some ⟨w.heap.size, 0, none⟩)] wr fun e w' => e = .returned (.string ⟨(spoke L).toArray⟩) ∧ Below w.heap.size wr w') := by
        have hx := Tryd.Builder_String_any_k w.heap.size w.heap.size (spoke L) wr (by rw [hke, List.take_length] at hbl; exact hbl) hsz
        exact hx.mono fun e w' h => ⟨h.1, h.2.2.1⟩
      clear hbl hbw hke
      go_wp2_with (first | (go_at_call 17; refine CS.out.mono ?_; rintro e w1 ⟨rfl, hb2⟩))
      go_ret
      exact ⟨rfl, HBW.out.trans hb2⟩
end Go.Proofs.YtbpggpnmbfjadaaDoor
