/-
  CONTRACT of pleacherkeep.relation: a relation of raw things.
-/
import Derived.Test.YtfgiocpgeainjaaDoorKpSmall
import Derived.Test.YtfgiocpgeainjaaDoorRlTwo
import Derived.Deep.RegionLaw
import Derived.Sort.AtCall
set_option linter.unusedVariables false
namespace Go.Proofs.YtfgiocpgeainjaaDoor
set_option maxRecDepth 100000
open Go.RowKit Go.WideShapes

def itX (x : Rw) : It := ⟨2, pk x.a 4, ⟨#[]⟩⟩
def itY (x : Rw) : It := if pk x.c 4 = 0 then ⟨3, 0, pl x.t⟩ else if pk x.c 4 = 1 then ⟨4, pk x.b 2, ⟨#[]⟩⟩ else ⟨2, pk x.b 4 - 1, ⟨#[]⟩⟩
/-- the rows of raw things -/
def rawR (X : Nat → Rw) (i : Nat) : Row := ⟨2, fun t => if t = 0 then itX (X i) else itY (X i)⟩
def rawN (n : Nat) : Nat := if n < 12 then n else 12
def twoC (a b : ByteArray) (i : Nat) : ByteArray := if i = 0 then a else b

theorem wpList_push_two {ops : Array Oper} {rest : List Oper} {o : Oper} {a : Act} {w : World} {Q : Exit → Act → World → Prop} (hgd : o.guard = none) (s x : Operand)
    (ho : o.op = .call { callee := .builtin .append, args := #[s, x], argTypes := #[24, 24] })
    (B T m : Nat) (v : Value) (R : Nat → Row) (hs : a.eval s = v) (hv : RowsTwo w B T v m R) (hBT : B ≤ T) (hT : T < w.heap.size)
    (ad : Addr) (c : Nat) (u : Value) (hx : a.eval x = .slice (some ad) 1 c) (hc : w.cell? ad = some u) (hu : ItsApart w (T + 1) v.ownBlock u (R m).len (R m).at_) (hb : (m + 1) * 24 ≤ 140737488355328)
    (h : ∀ v' w', RowsTwo w' B T v' (m + 1) R → (∃ a' c', v' = .slice a' (m + 1) c') → w.grownBy w' v.ownBlock → (v'.ownBlock = v.ownBlock ∨ v'.ownBlock = some w.heap.size) → wpList Tryd.prog ops Q rest (a.put o.dst v') w') : wpList Tryd.prog ops Q (o :: rest) a w :=
  wpList_plain hgd fun K hK => wp_push_two s x ho B T m v R hs hv hBT hT ad c u hx hc hu hb (fun v' w' h1 h2 h3 h4 => hK _ _ (h v' w' h1 h2 h3 h4))
/-- two items that were laid down -/
theorem two_apart {w : World} {T b : Nat} {g : Option Nat} {p q : It} {X : Nat → It} (hb : b = w.heap.size) (hT : T ≤ w.heap.size) (hg : ∀ k, g = some k → k < w.heap.size) (h0 : X 0 = p) (h1 : X 1 = q) :
    ItsApart (w.alloc (.cells #[.int .i64 p.kind, .int .i64 p.n, .string p.s, .int .i64 q.kind, .int .i64 q.n, .string q.s] 33)) T g (.slice (some ⟨b, 0, none⟩) 2 2) 2 X := by
  subst hb
  refine ⟨_, 2, rfl, Nat.le_refl _, by unfold maxLen; omega, (fun h => nomatch h), fun _ => ⟨w.heap.size, 0, rfl, by simp, hT, fun e => by have := hg _ e; omega, fun i hi => ?_⟩⟩
  obtain rfl | rfl : i = 0 ∨ i = 1 := by omega
  · subst h0; simp
  · subst h1; simp
theorem xy_kept {wr w2 : World} {e : TypeId} {x0 x1 x2 y0 y1 y2 : Value} (h : Below ((wr.alloc (.cells #[x0, x1, x2] e)).alloc (.cells #[y0, y1, y2] e)).heap.size ((wr.alloc (.cells #[x0, x1, x2] e)).alloc (.cells #[y0, y1, y2] e)) w2) :
    w2.cell? ⟨wr.heap.size, 0, none⟩ = some x0 ∧ w2.cell? ⟨wr.heap.size, 1, none⟩ = some x1 ∧ w2.cell? ⟨wr.heap.size, 2, none⟩ = some x2 ∧ w2.cell? ⟨wr.heap.size + 1, 0, none⟩ = some y0 ∧ w2.cell? ⟨wr.heap.size + 1, 1, none⟩ = some y1 ∧ w2.cell? ⟨wr.heap.size + 1, 2, none⟩ = some y2 ∧ w2.frozen? ⟨wr.heap.size + 1, 0, none⟩ = false ∧ w2.frozen? ⟨wr.heap.size + 1, 1, none⟩ = false ∧ w2.frozen? ⟨wr.heap.size + 1, 2, none⟩ = false ∧ wr.heap.size + 1 < w2.heap.size := by
  have hs := h.size
  simp at hs
  refine ⟨(h.cell (p := ⟨wr.heap.size, 0, none⟩) (by simp <;> omega)).trans (by simp [go_sem]), (h.cell (p := ⟨wr.heap.size, 1, none⟩) (by simp <;> omega)).trans (by simp [go_sem]), (h.cell (p := ⟨wr.heap.size, 2, none⟩) (by simp <;> omega)).trans (by simp [go_sem]), (h.cell (p := ⟨wr.heap.size + 1, 0, none⟩) (by simp <;> omega)).trans (by simp [go_sem]), (h.cell (p := ⟨wr.heap.size + 1, 1, none⟩) (by simp <;> omega)).trans (by simp [go_sem]), (h.cell (p := ⟨wr.heap.size + 1, 2, none⟩) (by simp <;> omega)).trans (by simp [go_sem]), (h.frozen (p := ⟨wr.heap.size + 1, 0, none⟩) (by simp <;> omega)).trans (by simp [go_sem]), (h.frozen (p := ⟨wr.heap.size + 1, 1, none⟩) (by simp <;> omega)).trans (by simp [go_sem]), (h.frozen (p := ⟨wr.heap.size + 1, 2, none⟩) (by simp <;> omega)).trans (by simp [go_sem]), by omega⟩
/-- two columns, over stores elsewhere -/
theorem strs_set {w : World} {b n cap : Nat} {C : Nat → ByteArray} {p : Addr} {u : Value} (h : StrsIs w (.slice (some ⟨b, 0, none⟩) n cap) n C) (hp : p.block ≠ b) : StrsIs (w.setCell p u) (.slice (some ⟨b, 0, none⟩) n cap) n C := by
  obtain ⟨a, c, e, h1, h2, h3, h4⟩ := h
  cases e
  refine ⟨_, _, rfl, h1, h2, h3, fun h0 => ?_⟩
  obtain ⟨b', off, e, h5, h6⟩ := h4 h0
  cases e
  exact ⟨b, 0, rfl, by simpa using h5, fun i hi => (World.cell?_of_block (Below.heap_setCell _ _ _ _ (by simpa using fun h => hp h.symm))).trans (h6 i hi)⟩
theorem wb2 {w W : World} {o o' : Obj} (h : Below (w.heap.size + 2) ((w.alloc o).alloc o') W) : Below w.heap.size w W := (((Below.refl _ _).alloc (Nat.le_refl _) o).alloc (by simp) o').trans (h.mono (by omega))

set_option maxHeartbeats 12800000 in
theorem relation_is (v : Value) (n : Nat) (X : Nat → Rw) (a b : ByteArray) (w : World) (hv : RawsIs w v n X) (hf : RawsFine n X) :
    Calls Tryd.prog 4 #[v, .string a, .string b] w fun e w' => ∃ c q, e = .returned (.agg #[c, q]) ∧ StrsIs w' c 2 (twoC a b) ∧ RowsTwo w' (w.heap.size + 2) (w.heap.size + 2) q (rawN n) (rawR X) ∧ Below w.heap.size w w' ∧ w.heap.size + 2 < w'.heap.size := by
  have HV : Hid (∀ W, Below w.heap.size w W → RawsIs W v n X) := fun W h => hv.below h
  have CP : Hid (∀ W i, i < n → Calls Tryd.prog 6 #[.int .i64 (X i).a, .int .i64 4] W fun e w' => e = .returned (.int .i64 (pk (X i).a 4)) ∧ W = w') := fun W i hi => (picked_is _ 4 W (hf i hi).1 (by omega) (by omega)).mono (fun e w' h => ⟨h.1, h.2.symm⟩)
  have CQ : Hid (∀ W i m, i < n → m = 4 ∨ m = 2 → Calls Tryd.prog 6 #[.int .i64 (X i).b, .int .i64 m] W fun e w' => e = .returned (.int .i64 (pk (X i).b m)) ∧ W = w') := fun W i m hi hm => (picked_is _ m W (hf i hi).2.1 (by omega) (by omega)).mono (fun e w' h => ⟨h.1, h.2.symm⟩)
  have CC : Hid (∀ W i, i < n → Calls Tryd.prog 6 #[.int .i64 (X i).c, .int .i64 4] W fun e w' => e = .returned (.int .i64 (pk (X i).c 4)) ∧ W = w') := fun W i hi => (picked_is _ 4 W (hf i hi).2.2.1 (by omega) (by omega)).mono (fun e w' h => ⟨h.1, h.2.symm⟩)
  have CL : Hid (∀ W i, i < n → Calls Tryd.prog 7 #[.string (X i).t, .int .i64 1] W fun e w' => e = .returned (.string (pl (X i).t)) ∧ Below W.heap.size W w') := fun W i hi => plain_is _ W (hf i hi).2.2.2
  have hnn : n ≤ 9223372036854775807 := by obtain ⟨_, c, _, h1, h2, _⟩ := hv; unfold maxLen at h2; omega
  obtain ⟨va, vcap, rfl, v1, v2, v3⟩ := hv
  clear hf v1 v2 v3
  go_enter Tryd.func4, Tryd.ntmps4
  go_wp2
  go_loopw [8] (fun i wr => ∃ (k : Nat) (rv : Value), k ≤ rawN n ∧ i = .int .i64 k ∧ wr.cell? ⟨w.heap.size + 1 + 1, 0, none⟩ = some (.slice (some ⟨w.heap.size + 1, 0, none⟩) 2 2) ∧ wr.cell? ⟨w.heap.size + 1 + 1, 1, none⟩ = some rv ∧ wr.frozen? ⟨w.heap.size + 1 + 1, 1, none⟩ = false ∧ w.heap.size + 2 < wr.heap.size ∧ RowsTwo wr (w.heap.size + 2) (w.heap.size + 2) rv k (rawR X) ∧ Below (w.heap.size + 2) ((w.alloc (.cells #[.slice none 0 0, .slice none 0 0] 26)).alloc (.cells #[.string a, .string b] 9)) wr) (fun i _ => 12 - (intOf i).toNat)
  case atStart => exact ⟨0, .slice none 0 0, Nat.zero_le _, rfl, by simp [go_sem], by simp [go_sem], by simp [go_sem], by simp, ⟨[], World.ownsRow_nil _ _ _ _, (fun h => nomatch h), fun i hi => absurd hi (Nat.not_lt_zero i)⟩, (Below.refl _ _).alloc (by simp) _⟩
  case round =>
    obtain ⟨k, rv, hk, rfl, t0, t1, tf, hTz, hrow, hbr⟩ := hrel
    have hk12 : k ≤ n ∧ k ≤ 12 := by unfold rawN at hk; split at hk <;> omega
    obtain ⟨ra, rc, rfl⟩ := hrow.shape
    have HROW : Hid (RowsTwo wr (w.heap.size + 2) (w.heap.size + 2) (.slice ra k rc) k (rawR X)) := hrow
    have HBR : Hid (Below (w.heap.size + 2) ((w.alloc (.cells #[.slice none 0 0, .slice none 0 0] 26)).alloc (.cells #[.string a, .string b] 9)) wr) := hbr
    have HK : Hid (k ≤ rawN n) := hk
    clear hrow hbr hk
    by_cases hlt : k < n ∧ k < 12
    · obtain ⟨hkn, hk2⟩ := hlt
      have hki : (k : Int) < (n : Int) := by omega
      have hki2 : (k : Int) < 12 := by omega
      obtain ⟨_, _, e0, e1, e2, e3⟩ := HV.out wr (wb2 HBR.out)
      cases e0
      obtain ⟨bb, off, rfl, hbb, e4⟩ := e3 (by omega)
      obtain ⟨c0, c1, c2, c3, c4⟩ := e4 k hkn
      clear e1 e2 e3 e4
      have hT1 : w.heap.size + 1 + 1 < wr.heap.size := hTz
      have hT3 : w.heap.size + 1 < wr.heap.size := by omega
      have hT4 : w.heap.size < wr.heap.size := by omega
      have hT5 : w.heap.size < wr.heap.size + 1 := by omega
      have hT6 : w.heap.size < wr.heap.size + 1 + 1 := by omega
      have H1 : Hid (k + 1 ≤ rawN n) := (by unfold rawN; split <;> omega : k + 1 ≤ rawN n)
      by_cases hc0 : pk (X k).c 4 = 0
      · have HY : Hid (itY (X k) = ⟨3, 0, pl (X k).t⟩) := if_pos hc0
        have hr := pk_range (n := (X k).b) (many := 4) (by omega)
        go_upto_region 12 with (first
          | (go_at_call_has 6 (Value.int .i64 (X k).a); refine (CP.out _ k hkn).mono ?_; rintro e w1 ⟨rfl, rfl⟩)
          | (go_at_call_has 6 (Value.int .i64 (X k).b); refine (CQ.out _ k _ hkn (by omega)).mono ?_; rintro e w1 ⟨rfl, rfl⟩)
          | (go_at_call_has 6 (Value.int .i64 (X k).c); refine (CC.out _ k hkn).mono ?_; rintro e w1 ⟨rfl, rfl⟩)
          | (go_at_call 7; refine (CL.out _ k hkn).mono ?_; rintro e w2 ⟨rfl, hb2⟩; have HW2 : Hid (Below wr.heap.size wr w2) := (((Below.refl _ _).alloc (Nat.le_refl _) _).alloc (by simp) _).trans (hb2.mono (by simp <;> omega)); obtain ⟨x0, x1, x2, y0, y1, y2, f0, f1, f2, g0⟩ := xy_kept hb2; have g1 : wr.heap.size < w2.heap.size := (by omega); have g2 : w.heap.size + 1 + 1 < w2.heap.size := (by omega); have u1 := (HW2.out.cell (p := ⟨w.heap.size + 1 + 1, 1, none⟩) hT1).trans t1; have g3 : ¬ w.heap.size + 1 + 1 = wr.heap.size + 1 := (by omega); have g4 : ¬ w.heap.size + 1 = wr.heap.size := (by omega); clear hb2))
        have HT2 := (two_apart (w := (((w2.setCell ⟨wr.heap.size + 1, 0, none⟩ (.int .i64 3)).setCell ⟨wr.heap.size + 1, 1, none⟩ (.int .i64 0)).setCell ⟨wr.heap.size + 1, 2, none⟩ (.string (pl (X k).t)))) (b := w2.heap.size) (T := w.heap.size + 2 + 1) (g := (Value.slice ra k rc).ownBlock) (X := (rawR X k).at_) (by simp) (by simp <;> omega) (fun z hz => by have := HROW.out.lt z hz; simp <;> omega) rfl HY.out)
        go_wp2_with (first
          | (at_builtin; refine wpList_push_two rfl (.tmp 65) (.tmp 69) rfl (w.heap.size + 2) (w.heap.size + 2) k (.slice ra k rc) (rawR X) rfl (by exact HROW.out.below (by repeat (first | exact HW2.out | refine Below.alloc ?_ (by simp <;> omega) _ | refine Below.setCell ?_ (by simp <;> omega) _ | refine Below.drew ?_)) (Nat.le_refl _)) (Nat.le_refl _) (by simp [go_sem] <;> omega) ⟨w2.heap.size + 1, 0, none⟩ 1 (.slice (some ⟨w2.heap.size, 0, none⟩) 2 2) rfl (by simp [go_sem]) (by exact (HT2.alloc _).heap rfl) (by omega) ?_; intro v8 w8 hr8 hsh8 hg8 _; obtain ⟨va8, vc8, rfl⟩ := hsh8; obtain ⟨z1, z2, z3⟩ := put_facts (wr := wr) hg8 (by repeat (first | exact HW2.out | refine Below.alloc ?_ (by simp <;> omega) _ | refine Below.setCell ?_ (by simp <;> omega) _ | refine Below.drew ?_)) HROW.out (Nat.le_refl _) hTz; have HR8 : Hid (RowsTwo w8 (w.heap.size + 2) (w.heap.size + 2) (.slice va8 (k + 1) vc8) (k + 1) (rawR X)) := hr8; have HB8 : Hid (Below (w.heap.size + 2) ((w.alloc (.cells #[.slice none 0 0, .slice none 0 0] 26)).alloc (.cells #[.string a, .string b] 9)) w8) := HBR.out.trans z3; have s0 := (World.cell?_of_block (a := ⟨w.heap.size + 1 + 1, 0, none⟩) z1).trans t0; have s1 := (World.cell?_of_block (a := ⟨w.heap.size + 1 + 1, 1, none⟩) z1).trans t1; have sf := (World.frozen?_of_block (a := ⟨w.heap.size + 1 + 1, 1, none⟩) z1).trans tf; have sz : w.heap.size + 2 < w8.heap.size := (by omega); have sz' : w.heap.size + 1 + 1 < w8.heap.size := sz; clear hr8 hg8 z1 z2 z3))
        all_goals
          go_roundw
          case rel => exact ⟨k + 1, .slice va8 (k + 1) vc8, H1.out, by go_num, by simp [go_sem, s0], by simp [go_sem, s1], by simp [go_sem, sf], by simp; omega, HR8.out.setCell (Nat.le_refl _) (.inl rfl) _, HB8.out.setCell (by simp) _⟩
          case measure => simp [intOf]; omega
      · by_cases hc1 : pk (X k).c 4 = 1
        · have HY : Hid (itY (X k) = ⟨4, pk (X k).b 2, ⟨#[]⟩⟩) := (if_neg hc0).trans (if_pos hc1)
          have hr := pk_range (n := (X k).b) (many := 4) (by omega)
          have hr2 := pk_range (n := (X k).b) (many := 2) (by omega)
          have hc0' : (pk (X k).c 4 == 0) = false := by simpa using hc0
          have HT2 := (two_apart (w := (wr.alloc (.cells #[.int .i64 2, .int .i64 (pk (X k).a 4), .string ⟨#[]⟩] 33)).alloc (.cells #[.int .i64 4, .int .i64 (pk (X k).b 2), .string ⟨#[]⟩] 33)) (b := wr.heap.size + 1 + 1) (T := w.heap.size + 2 + 1) (g := (Value.slice ra k rc).ownBlock) (X := (rawR X k).at_) (by simp) (by simp <;> omega) (fun z hz => by have := HROW.out.lt z hz; simp <;> omega) rfl HY.out)
          go_upto_region 12 with (first
            | (go_at_call_has 6 (Value.int .i64 (X k).a); refine (CP.out _ k hkn).mono ?_; rintro e w1 ⟨rfl, rfl⟩)
            | (go_at_call_has 6 (Value.int .i64 (X k).b); refine (CQ.out _ k _ hkn (by omega)).mono ?_; rintro e w1 ⟨rfl, rfl⟩)
            | (go_at_call_has 6 (Value.int .i64 (X k).c); refine (CC.out _ k hkn).mono ?_; rintro e w1 ⟨rfl, rfl⟩))
          go_wp2_with (first
            | (at_builtin; refine wpList_push_two rfl (.tmp 65) (.tmp 69) rfl (w.heap.size + 2) (w.heap.size + 2) k (.slice ra k rc) (rawR X) rfl (by exact HROW.out.below (by repeat (first | exact Below.refl _ _ | refine Below.alloc ?_ (by simp <;> omega) _ | refine Below.setCell ?_ (by simp <;> omega) _ | refine Below.drew ?_)) (Nat.le_refl _)) (Nat.le_refl _) (by simp [go_sem] <;> omega) ⟨wr.heap.size + 1 + 1 + 1, 0, none⟩ 1 (.slice (some ⟨wr.heap.size + 1 + 1, 0, none⟩) 2 2) rfl (by simp [go_sem]) (by exact (HT2.alloc _).heap rfl) (by omega) ?_; intro v8 w8 hr8 hsh8 hg8 _; obtain ⟨va8, vc8, rfl⟩ := hsh8; obtain ⟨z1, z2, z3⟩ := put_facts (wr := wr) hg8 (by repeat (first | exact Below.refl _ _ | refine Below.alloc ?_ (by simp <;> omega) _ | refine Below.setCell ?_ (by simp <;> omega) _ | refine Below.drew ?_)) HROW.out (Nat.le_refl _) hTz; have HR8 : Hid (RowsTwo w8 (w.heap.size + 2) (w.heap.size + 2) (.slice va8 (k + 1) vc8) (k + 1) (rawR X)) := hr8; have HB8 : Hid (Below (w.heap.size + 2) ((w.alloc (.cells #[.slice none 0 0, .slice none 0 0] 26)).alloc (.cells #[.string a, .string b] 9)) w8) := HBR.out.trans z3; have s0 := (World.cell?_of_block (a := ⟨w.heap.size + 1 + 1, 0, none⟩) z1).trans t0; have s1 := (World.cell?_of_block (a := ⟨w.heap.size + 1 + 1, 1, none⟩) z1).trans t1; have sf := (World.frozen?_of_block (a := ⟨w.heap.size + 1 + 1, 1, none⟩) z1).trans tf; have sz : w.heap.size + 2 < w8.heap.size := (by omega); have sz' : w.heap.size + 1 + 1 < w8.heap.size := sz; clear hr8 hg8 z1 z2 z3))
          all_goals
            go_roundw
            case rel => exact ⟨k + 1, .slice va8 (k + 1) vc8, H1.out, by go_num, by simp [go_sem, s0], by simp [go_sem, s1], by simp [go_sem, sf], by simp; omega, HR8.out.setCell (Nat.le_refl _) (.inl rfl) _, HB8.out.setCell (by simp) _⟩
            case measure => simp [intOf]; omega
        · have HY : Hid (itY (X k) = ⟨2, pk (X k).b 4 - 1, ⟨#[]⟩⟩) := (if_neg hc0).trans (if_neg hc1)
          have hr := pk_range (n := (X k).b) (many := 4) (by omega)
          have hc0' : (pk (X k).c 4 == 0) = false := by simpa using hc0
          have hc1' : (pk (X k).c 4 == 1) = false := by simpa using hc1
          have HT2 := (two_apart (w := (wr.alloc (.cells #[.int .i64 2, .int .i64 (pk (X k).a 4), .string ⟨#[]⟩] 33)).alloc (.cells #[.int .i64 2, .int .i64 (pk (X k).b 4 - 1), .string ⟨#[]⟩] 33)) (b := wr.heap.size + 1 + 1) (T := w.heap.size + 2 + 1) (g := (Value.slice ra k rc).ownBlock) (X := (rawR X k).at_) (by simp) (by simp <;> omega) (fun z hz => by have := HROW.out.lt z hz; simp <;> omega) rfl HY.out)
          go_upto_region 12 with (first
            | (go_at_call_has 6 (Value.int .i64 (X k).a); refine (CP.out _ k hkn).mono ?_; rintro e w1 ⟨rfl, rfl⟩)
            | (go_at_call_has 6 (Value.int .i64 (X k).b); refine (CQ.out _ k _ hkn (by omega)).mono ?_; rintro e w1 ⟨rfl, rfl⟩)
            | (go_at_call_has 6 (Value.int .i64 (X k).c); refine (CC.out _ k hkn).mono ?_; rintro e w1 ⟨rfl, rfl⟩))
          go_wp2_with (first
            | (at_builtin; refine wpList_push_two rfl (.tmp 65) (.tmp 69) rfl (w.heap.size + 2) (w.heap.size + 2) k (.slice ra k rc) (rawR X) rfl (by exact HROW.out.below (by repeat (first | exact Below.refl _ _ | refine Below.alloc ?_ (by simp <;> omega) _ | refine Below.setCell ?_ (by simp <;> omega) _ | refine Below.drew ?_)) (Nat.le_refl _)) (Nat.le_refl _) (by simp [go_sem] <;> omega) ⟨wr.heap.size + 1 + 1 + 1, 0, none⟩ 1 (.slice (some ⟨wr.heap.size + 1 + 1, 0, none⟩) 2 2) rfl (by simp [go_sem]) (by exact (HT2.alloc _).heap rfl) (by omega) ?_; intro v8 w8 hr8 hsh8 hg8 _; obtain ⟨va8, vc8, rfl⟩ := hsh8; obtain ⟨z1, z2, z3⟩ := put_facts (wr := wr) hg8 (by repeat (first | exact Below.refl _ _ | refine Below.alloc ?_ (by simp <;> omega) _ | refine Below.setCell ?_ (by simp <;> omega) _ | refine Below.drew ?_)) HROW.out (Nat.le_refl _) hTz; have HR8 : Hid (RowsTwo w8 (w.heap.size + 2) (w.heap.size + 2) (.slice va8 (k + 1) vc8) (k + 1) (rawR X)) := hr8; have HB8 : Hid (Below (w.heap.size + 2) ((w.alloc (.cells #[.slice none 0 0, .slice none 0 0] 26)).alloc (.cells #[.string a, .string b] 9)) w8) := HBR.out.trans z3; have s0 := (World.cell?_of_block (a := ⟨w.heap.size + 1 + 1, 0, none⟩) z1).trans t0; have s1 := (World.cell?_of_block (a := ⟨w.heap.size + 1 + 1, 1, none⟩) z1).trans t1; have sf := (World.frozen?_of_block (a := ⟨w.heap.size + 1 + 1, 1, none⟩) z1).trans tf; have sz : w.heap.size + 2 < w8.heap.size := (by omega); have sz' : w.heap.size + 1 + 1 < w8.heap.size := sz; clear hr8 hg8 z1 z2 z3))
          all_goals
            go_roundw
            case rel => exact ⟨k + 1, .slice va8 (k + 1) vc8, H1.out, by go_num, by simp [go_sem, s0], by simp [go_sem, s1], by simp [go_sem, sf], by simp; omega, HR8.out.setCell (Nat.le_refl _) (.inl rfl) _, HB8.out.setCell (by simp) _⟩
            case measure => simp [intOf]; omega
    · have HE : Hid (k = rawN n) := by
        have h : k = rawN n := by
          have h0 := HK.out
          unfold rawN at h0 ⊢
          split at h0 <;> split <;> omega
        exact h
      have y0 : wr.cell? ⟨w.heap.size, 0, none⟩ = some (.slice none 0 0) := (HBR.out.cell (p := ⟨w.heap.size, 0, none⟩) (by simp)).trans (by simp [go_sem])
      have y1 : wr.cell? ⟨w.heap.size, 1, none⟩ = some (.slice none 0 0) := (HBR.out.cell (p := ⟨w.heap.size, 1, none⟩) (by simp)).trans (by simp [go_sem])
      have y2 : wr.frozen? ⟨w.heap.size, 0, none⟩ = false := (HBR.out.frozen (p := ⟨w.heap.size, 0, none⟩) (by simp)).trans (by simp [go_sem])
      have y3 : wr.frozen? ⟨w.heap.size, 1, none⟩ = false := (HBR.out.frozen (p := ⟨w.heap.size, 1, none⟩) (by simp)).trans (by simp [go_sem])
      have hT1 : w.heap.size + 1 + 1 < wr.heap.size := hTz
      have hT4 : w.heap.size < wr.heap.size := by omega
      have HS : Hid (StrsIs wr (.slice (some ⟨w.heap.size + 1, 0, none⟩) 2 2) 2 (twoC a b)) := by
        have h : StrsIs wr (.slice (some ⟨w.heap.size + 1, 0, none⟩) 2 2) 2 (twoC a b) := by
          refine ⟨_, _, rfl, Nat.le_refl _, by unfold maxLen; omega, (fun h => nomatch h), fun _ => ⟨w.heap.size + 1, 0, rfl, by omega, fun i hi => ?_⟩⟩
          refine (HBR.out.cell (p := ⟨w.heap.size + 1, 0 + i, none⟩) (by simp)).trans ?_
          obtain rfl | rfl : i = 0 ∨ i = 1 := by omega
          · simp [go_sem, twoC]
          · simp [go_sem, twoC]
        exact h
      have hkk : ((k : Int) < (n : Int) ∧ ¬ (k : Int) < 12) ∨ ¬ (k : Int) < (n : Int) := by omega
      rcases hkk with ⟨hk1, hk2⟩ | hk1
      all_goals
        go_wp2
        refine bodyPost_ret (v := .agg #[.slice (some ⟨w.heap.size + 1, 0, none⟩) 2 2, .slice ra k rc]) (by simp [results, Tryd.results4, go_sem, y0, y1]) rfl ⟨_, _, rfl, ?_, ?_, ?_, by simpa using hTz⟩
        · exact strs_set (strs_set HS.out (by simp)) (by simp)
        · rw [← HE.out]; exact (HROW.out.setCell (Nat.le_refl _) (.inr (by simp)) _).setCell (Nat.le_refl _) (.inr (by simp)) _
        · exact ((wb2 HBR.out).setCell (by simp) _).setCell (by simp) _
end Go.Proofs.YtfgiocpgeainjaaDoor
