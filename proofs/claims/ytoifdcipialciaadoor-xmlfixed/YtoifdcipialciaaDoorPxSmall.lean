/-
  CONTRACTS of the parser's small methods (xml.parser: stuck, skip): a struct of four cells (the text, the place, the events, the open names).
-/
import Derived.Test.YtoifdcipialciaaDoorShelf
import Derived.WalkKit
import Derived.WalkSpells
import Derived.WalkLawsBesides
import Derived.Outline
import Derived.Sort.AtCall
import Derived.Deep.QuietTactic
import Derived.BigQuiet
import Derived.Deep.LoopGhost
set_option linter.unusedVariables false
namespace Go.Proofs.YtoifdcipialciaaDoor
set_option maxRecDepth 100000
open Go.RowKit

/-- the parser's cells -/
def PCells (w : World) (pb : Nat) (s : ByteArray) (p : Nat) (ev op : Value) : Prop :=
  w.cell? ⟨pb, 0, none⟩ = some (.string s) ∧ w.cell? ⟨pb, 1, none⟩ = some (.int .i64 (p : Int)) ∧ w.cell? ⟨pb, 2, none⟩ = some ev ∧ w.cell? ⟨pb, 3, none⟩ = some op ∧ w.frozen? ⟨pb, 1, none⟩ = false ∧ w.frozen? ⟨pb, 2, none⟩ = false ∧ w.frozen? ⟨pb, 3, none⟩ = false ∧ pb < w.heap.size
theorem PCells.at {w : World} {pb : Nat} {s : ByteArray} {p : Nat} {ev op : Value} (h : PCells w pb s p ev op) (q : Nat) : PCells (w.setCell ⟨pb, 1, none⟩ (.int .i64 (q : Int))) pb s q ev op := by
  obtain ⟨h0, h1, h2, h3, h4, h5, h6, h7⟩ := h
  refine ⟨by simp [go_sem, h0], by simp [go_sem, h1], by simp [go_sem, h2], by simp [go_sem, h3], by simp [go_sem, h4], by simp [go_sem, h5], by simp [go_sem, h6], by simpa using h7⟩
/-- what is told where nothing goes on -/
def stE (s : ByteArray) (p : Nat) : Int := if p = s.size then 5 else 4
/-- does a text stand at a place? -/
def hitB (s : ByteArray) (p : Nat) (t : ByteArray) : Bool := Lib.hasPrefix (s.extract p s.size).data.toList t.data.toList
/-- nothing but the parser's cells is turned -/
def ByP (pb : Nat) (w wr : World) : Prop := wr.heap.size = w.heap.size ∧ wr.os = w.os ∧ wr.tape = w.tape ∧ wr.output = w.output ∧ ∀ b, b ≠ pb → wr.heap[b]? = w.heap[b]?
theorem ByP.refl (pb : Nat) (w : World) : ByP pb w w := ⟨rfl, rfl, rfl, rfl, fun _ _ => rfl⟩
theorem ByP.trans {pb : Nat} {a b c : World} (h : ByP pb a b) (h' : ByP pb b c) : ByP pb a c := ⟨h'.1.trans h.1, h'.2.1.trans h.2.1, h'.2.2.1.trans h.2.2.1, h'.2.2.2.1.trans h.2.2.2.1, fun k hk => (h'.2.2.2.2 k hk).trans (h.2.2.2.2 k hk)⟩
theorem ByP.drewN {pb : Nat} {w wr : World} (h : ByP pb w wr) (q : Nat) : ByP pb w (wr.drewN q) := h
theorem ByP.set {pb : Nat} {w wr : World} (h : ByP pb w wr) (t : Nat) (u : Value) : ByP pb w (wr.setCell ⟨pb, t, none⟩ u) := ⟨by simpa using h.1, h.2.1, h.2.2.1, h.2.2.2.1, fun b hb => (Below.heap_setCell _ _ _ _ (by simpa using hb)).trans (h.2.2.2.2 b hb)⟩
theorem PCells.drewN {w : World} {pb : Nat} {s : ByteArray} {p : Nat} {ev op : Value} (h : PCells w pb s p ev op) (q : Nat) : PCells (w.drewN q) pb s p ev op := h
set_option maxHeartbeats 400000 in
theorem stuck_is (pb : Nat) (s : ByteArray) (p : Nat) (ev op : Value) (w : World) (h : PCells w pb s p ev op) :
    Calls Tryd.prog 22 #[.pointer (some ⟨pb, 0, none⟩)] w fun e w' => e = .returned (.int .i64 (stE s p)) ∧ PCells w' pb s p ev op ∧ ByP pb w w' := by
  have HP : Hid (PCells w pb s p ev op) := h
  obtain ⟨h0, h1, _, _, _, _, _, h7⟩ := h
  by_cases e : p = s.size
  · have HE : Hid (stE s p = 5) := if_pos e
    have hb : ((p : Int) == (s.size : Int)) = true := by rw [beq_iff_eq]; omega
    clear e
    go_enter Tryd.func22, Tryd.ntmps22
    go_upto_region 1 with fail
    go_quiet (fail)
    go_wp2
    all_goals (exact bodyPost_ret (v := .int .i64 5) (by simp [results, Tryd.results22, go_sem]) rfl ⟨by rw [HE.out], HP.out.drewN _, (ByP.refl _ _).drewN _⟩)
  · have HE : Hid (stE s p = 4) := if_neg e
    have hb : ((p : Int) == (s.size : Int)) = false := by rw [beq_eq_false_iff_ne]; omega
    clear e
    go_enter Tryd.func22, Tryd.ntmps22
    go_upto_region 1 with fail
    go_quiet (fail)
    go_wp2
    all_goals (exact bodyPost_ret (v := .int .i64 4) (by simp [results, Tryd.results22, go_sem]) rfl ⟨by rw [HE.out], HP.out.drewN _, (ByP.refl _ _).drewN _⟩)
/-- where it goes on -/
def skTo (s : ByteArray) (p : Nat) (t : ByteArray) : Nat := if hitB s p t = true then p + t.size else p
set_option maxHeartbeats 800000 in
theorem skip_is (pb : Nat) (s t : ByteArray) (p : Nat) (ev op : Value) (w : World) (h : PCells w pb s p ev op) (hp : p ≤ s.size) (hs : s.size ≤ 4000) (ht : t.size ≤ 100) :
    Calls Tryd.prog 21 #[.pointer (some ⟨pb, 0, none⟩), .string t] w fun e w' => e = .returned (.bool (hitB s p t)) ∧ PCells w' pb s (skTo s p t) ev op ∧ ByP pb w w' := by
  have HP : Hid (PCells w pb s p ev op) := h
  obtain ⟨h0, h1, h2, h3, h4, h5, h6, h7⟩ := h
  have hp1 : (p : Int) ≤ (s.size : Int) := by omega
  have HH : Hid (∀ q, Calls Tryd.prog 37 #[.string (s.extract p s.size), .string t] (w.drewN q) fun e w' => e = .returned (.bool (hitB s p t)) ∧ ∃ q', w' = (w.drewN q).drewN q') := fun q => (Tryd.strings_HasPrefix (s.extract p s.size) t (w.drewN q)).mono fun e w' ⟨h1, h2⟩ => ⟨h1, 0, h2⟩
  have hwa : IntKind.i64.wrap ((p : Int) + (t.size : Int)) = (p : Int) + (t.size : Int) := IntWalk.i64_in _ (by omega)
  cases hh : hitB s p t
  · rw [hh] at HH
    have HT : Hid (skTo s p t = p) := if_neg (by rw [hh]; decide)
    clear hh
    go_enter Tryd.func21, Tryd.ntmps21
    go_upto_region 1 with fail
    go_quiet ((go_at_call 37; refine Calls.quiet_of (HH.out _)))
    go_wp2
    all_goals (exact bodyPost_ret (v := .bool false) (by simp [results, Tryd.results21, go_sem]) rfl ⟨rfl, by rw [HT.out]; exact HP.out.drewN _, (ByP.refl _ _).drewN _⟩)
  · rw [hh] at HH
    have HT : Hid (skTo s p t = p + t.size) := if_pos hh
    clear hh
    go_enter Tryd.func21, Tryd.ntmps21
    go_upto_region 1 with fail
    go_quiet ((go_at_call 37; refine Calls.quiet_of (HH.out _)))
    go_wp2
    all_goals
      refine bodyPost_ret (v := .bool true) (by simp [results, Tryd.results21, go_sem]) rfl ⟨rfl, ?_, ((ByP.refl _ _).drewN _).set _ _⟩
      rw [HT.out]
      have h := (HP.out.drewN nq).at (p + t.size)
      rw [show ((p + t.size : Nat) : Int) = (p : Int) + (t.size : Int) by simp] at h
      exact h
theorem hit_le {s t : ByteArray} {p : Nat} (hp : p ≤ s.size) (h : hitB s p t = true) : p + t.size ≤ s.size := by
  have h1 : t.data.toList.length ≤ (s.extract p s.size).data.toList.length := (List.isPrefixOf_iff_prefix.1 h).length_le
  rw [Array.length_toList, Array.length_toList] at h1
  have h2 : t.size ≤ (s.extract p s.size).size := h1
  rw [ByteArray.size_extract] at h2
  omega
theorem skTo_le {s t : ByteArray} {p : Nat} (hp : p ≤ s.size) : p ≤ skTo s p t ∧ skTo s p t ≤ s.size := by
  unfold skTo
  split
  · exact ⟨by omega, hit_le hp (by assumption)⟩
  · exact ⟨Nat.le_refl _, hp⟩
/-- one byte of a text, as a text -/
def one1 (t : ByteArray) (i : Nat) : ByteArray := t.extract i (i + 1)
/-- a text, byte by byte: as far as it stands there -/
def exF (s t : ByteArray) : Nat → Nat → Nat → Nat × Bool
  | _, p, 0 => (p, true)
  | i, p, k + 1 => if hitB s p (one1 t i) = true then exF s t (i + 1) (p + 1) k else (p, false)
def exTo (s : ByteArray) (p : Nat) (t : ByteArray) : Nat := (exF s t 0 p t.size).1
def exE (s : ByteArray) (p : Nat) (t : ByteArray) : Int := if (exF s t 0 p t.size).2 = true then 0 else stE s (exTo s p t)
theorem one1_size {t : ByteArray} {i : Nat} (h : i < t.size) : (one1 t i).size = 1 := by
  unfold one1
  rw [ByteArray.size_extract]
  omega
set_option maxHeartbeats 800000 in
theorem expect_is (pb : Nat) (s t : ByteArray) (p : Nat) (ev op : Value) (w : World) (h : PCells w pb s p ev op) (hp : p ≤ s.size) (hs : s.size ≤ 4000) (ht : t.size ≤ 100) :
    Calls Tryd.prog 15 #[.pointer (some ⟨pb, 0, none⟩), .string t] w fun e w' => e = .returned (.int .i64 (exE s p t)) ∧ PCells w' pb s (exTo s p t) ev op ∧ ByP pb w w' := by
  have HP : Hid (PCells w pb s p ev op) := h
  clear h
  go_enter Tryd.func15, Tryd.ntmps15
  go_wp2
  go_loopw [8] (fun v wr => ∃ i q : Nat, i ≤ t.size ∧ q ≤ s.size ∧ v = .int .i64 i ∧ exF s t 0 p t.size = exF s t i q (t.size - i) ∧ PCells wr pb s q ev op ∧ ByP pb w wr) (fun v _ => t.size - (intOf v).toNat)
  case atStart => exact ⟨0, p, Nat.zero_le _, hp, rfl, rfl, HP.out, ByP.refl _ _⟩
  case round =>
    obtain ⟨i, q, hi, hq, rfl, hex, hpc, hby⟩ := hrel
    have HEX : Hid (exF s t 0 p t.size = exF s t i q (t.size - i)) := hex
    have HPC : Hid (PCells wr pb s q ev op) := hpc
    have HBY : Hid (ByP pb w wr) := hby
    clear hex hpc hby
    by_cases hit : i < t.size
    · have hii : (i : Int) < (t.size : Int) := by omega
      have hi1 : (i : Int) + 1 ≤ (t.size : Int) := by omega
      have hwi : IntKind.i64.wrap ((i : Int) + 1) = (i : Int) + 1 := IntWalk.i64_in _ (by omega)
      have CS : Hid (Calls Tryd.prog 21 #[.pointer (some ⟨pb, 0, none⟩), .string (one1 t i)] wr fun e w' => e = .returned (.bool (hitB s q (one1 t i))) ∧ PCells w' pb s (skTo s q (one1 t i)) ev op ∧ ByP pb wr w') := skip_is pb s (one1 t i) q ev op wr HPC.out hq hs (by rw [one1_size hit]; omega)
      have HST : Hid (exF s t i q (t.size - i) = if hitB s q (one1 t i) = true then exF s t (i + 1) (q + 1) (t.size - (i + 1)) else (q, false)) := by
        have h : exF s t i q (t.size - i) = if hitB s q (one1 t i) = true then exF s t (i + 1) (q + 1) (t.size - (i + 1)) else (q, false) := by
          rw [show t.size - i = (t.size - (i + 1)) + 1 by omega, exF]
        exact h
      cases hh : hitB s q (one1 t i)
      · have HX : Hid (exF s t 0 p t.size = (q, false)) := by
          have h : exF s t 0 p t.size = (q, false) := by rw [HEX.out, HST.out, if_neg (by rw [hh]; decide)]
          exact h
        have HK : Hid (skTo s q (one1 t i) = q) := if_neg (by rw [hh]; decide)
        rw [hh, HK.out] at CS
        clear hh
        go_wp2_with (first
          | (go_at_call 21; refine CS.out.mono ?_; rintro e w2 ⟨rfl, hp2, hb2⟩; have HP2 : Hid (PCells w2 pb s q ev op) := hp2; have HB2 : Hid (ByP pb w w2) := HBY.out.trans hb2; clear hp2 hb2)
          | (go_at_call 22; refine (stuck_is pb s q ev op _ HP2.out).mono ?_; rintro e w3 ⟨rfl, hp3, hb3⟩))
        all_goals (exact bodyPost_ret (v := .int .i64 (stE s q)) (by simp [results, Tryd.results15, go_sem]) rfl ⟨by unfold exE exTo; rw [HX.out]; rfl, by unfold exTo; rw [HX.out]; exact hp3, HB2.out.trans hb3⟩)
      · have HX : Hid (exF s t 0 p t.size = exF s t (i + 1) (q + 1) (t.size - (i + 1))) := by
          have h : exF s t 0 p t.size = exF s t (i + 1) (q + 1) (t.size - (i + 1)) := by rw [HEX.out, HST.out, if_pos hh]
          exact h
        have HK : Hid (skTo s q (one1 t i) = q + 1) := by
          have h : skTo s q (one1 t i) = q + 1 := by unfold skTo; rw [if_pos hh, one1_size hit]
          exact h
        have hq1 : q + 1 ≤ s.size := by have := hit_le hq hh; rw [one1_size hit] at this; exact this
        rw [hh, HK.out] at CS
        clear hh
        go_wp2_with (first
          | (go_at_call 21; refine CS.out.mono ?_; rintro e w2 ⟨rfl, hp2, hb2⟩; have HP2 : Hid (PCells w2 pb s (q + 1) ev op) := hp2; have HB2 : Hid (ByP pb w w2) := HBY.out.trans hb2; clear hp2 hb2))
        go_roundw
        case rel => exact ⟨i + 1, q + 1, by omega, hq1, by go_num, HX.out, HP2.out, HB2.out⟩
        case measure => simp [intOf]; omega
    · have e : i = t.size := by omega
      subst e
      have HX : Hid (exF s t 0 p t.size = (q, true)) := by
        have h : exF s t 0 p t.size = (q, true) := by rw [HEX.out, Nat.sub_self]; rfl
        exact h
      go_wp2
      all_goals (exact bodyPost_ret (v := .int .i64 0) (by simp [results, Tryd.results15, go_sem]) rfl ⟨by unfold exE; rw [HX.out]; rfl, by unfold exTo; rw [HX.out]; exact HPC.out, HBY.out⟩)
/-- blanks are passed -/
def blB (s : ByteArray) (p : Nat) : Bool := hitB s p ⟨#[32]⟩ || (hitB s p ⟨#[10]⟩ || hitB s p ⟨#[9]⟩)
def blF (s : ByteArray) : Nat → Nat → Nat
  | p, 0 => p
  | p, k + 1 => if blB s p = true then blF s (p + 1) k else p
def blTo (s : ByteArray) (p : Nat) : Nat := blF s p (s.size - p)
theorem bl_lt {s : ByteArray} {p : Nat} (hp : p ≤ s.size) (h : blB s p = true) : p < s.size := by
  unfold blB at h
  rw [Bool.or_eq_true, Bool.or_eq_true] at h
  rcases h with h | h | h
  · have := hit_le hp h; exact this
  · have := hit_le hp h; exact this
  · have := hit_le hp h; exact this
theorem blTo_step {s : ByteArray} {p : Nat} (hp : p ≤ s.size) (h : blB s p = true) : blTo s p = blTo s (p + 1) := by
  have hl := bl_lt hp h
  unfold blTo
  rw [show s.size - p = (s.size - (p + 1)) + 1 by omega, blF, if_pos h]
theorem blTo_stop {s : ByteArray} {p : Nat} (h : blB s p = false) : blTo s p = p := by
  unfold blTo
  cases e : s.size - p with
  | zero => rfl
  | succ k => rw [blF, if_neg (by rw [h]; decide)]
set_option maxHeartbeats 800000 in
theorem blanks_is (pb : Nat) (s : ByteArray) (p : Nat) (ev op : Value) (w : World) (h : PCells w pb s p ev op) (hp : p ≤ s.size) (hs : s.size ≤ 4000) :
    Calls Tryd.prog 25 #[.pointer (some ⟨pb, 0, none⟩)] w fun e w' => e = .returned (.bool (decide (p < blTo s p))) ∧ PCells w' pb s (blTo s p) ev op ∧ ByP pb w w' := by
  have HP : Hid (PCells w pb s p ev op) := h
  obtain ⟨h0, h1, h2, h3, h4, h5, h6, h7⟩ := h
  go_enter Tryd.func25, Tryd.ntmps25
  go_wp2
  clear h0 h1 h2 h3 h4 h5 h6 h7
  go_loopg [] (s.size - p) (fun g wr => ∃ q : Nat, p ≤ q ∧ q ≤ s.size ∧ g = s.size - q ∧ blTo s q = blTo s p ∧ PCells wr pb s q ev op ∧ ByP pb w wr)
  case atStart => exact ⟨p, Nat.le_refl _, hp, rfl, rfl, HP.out, ByP.refl _ _⟩
  case round =>
    obtain ⟨q, hpq, hq, rfl, hbt, hpc, hby⟩ := hrel
    have HBT : Hid (blTo s q = blTo s p) := hbt
    have HPC : Hid (PCells wr pb s q ev op) := hpc
    have HBY : Hid (ByP pb w wr) := hby
    clear hbt hpc hby
    cases ha : hitB s q ⟨#[32]⟩
    · cases hb : hitB s q ⟨#[10]⟩
      · cases hd : hitB s q ⟨#[9]⟩
        · skip
          have CA : Hid (∀ W, PCells W pb s q ev op → Calls Tryd.prog 21 #[.pointer (some ⟨pb, 0, none⟩), .string ⟨#[32]⟩] W fun e w' => e = .returned (.bool false) ∧ PCells w' pb s (q) ev op ∧ ByP pb W w') := fun W hW => by
            have h := skip_is pb s ⟨#[32]⟩ q ev op W hW hq hs (by show (1 : Nat) ≤ 100; decide)
            rwa [show skTo s q ⟨#[32]⟩ = q by unfold skTo; rw [ha]; rfl, ha] at h
          have CB : Hid (∀ W, PCells W pb s q ev op → Calls Tryd.prog 21 #[.pointer (some ⟨pb, 0, none⟩), .string ⟨#[10]⟩] W fun e w' => e = .returned (.bool false) ∧ PCells w' pb s (q) ev op ∧ ByP pb W w') := fun W hW => by
            have h := skip_is pb s ⟨#[10]⟩ q ev op W hW hq hs (by show (1 : Nat) ≤ 100; decide)
            rwa [show skTo s q ⟨#[10]⟩ = q by unfold skTo; rw [hb]; rfl, hb] at h
          have CD : Hid (∀ W, PCells W pb s q ev op → Calls Tryd.prog 21 #[.pointer (some ⟨pb, 0, none⟩), .string ⟨#[9]⟩] W fun e w' => e = .returned (.bool false) ∧ PCells w' pb s (q) ev op ∧ ByP pb W w') := fun W hW => by
            have h := skip_is pb s ⟨#[9]⟩ q ev op W hW hq hs (by show (1 : Nat) ≤ 100; decide)
            rwa [show skTo s q ⟨#[9]⟩ = q by unfold skTo; rw [hd]; rfl, hd] at h
          have HBL : Hid (blTo s p = q) := by
            have h : blTo s p = q := by rw [← HBT.out]; exact blTo_stop (by unfold blB; rw [ha, hb, hd]; rfl)
            exact h
          clear ha hb hd
          by_cases hpq' : p < q
          · have hgt : (p : Int) < (q : Int) := by omega
            have HD : Hid (decide (p < blTo s p) = true) := by
              have h : decide (p < blTo s p) = true := by rw [HBL.out]; exact decide_eq_true hpq'
              exact h
            go_wp2_with (first
            | (go_at_call_has 21 (Value.string ⟨#[32]⟩); refine (CA.out _ HPC.out).mono ?_; rintro e w1 ⟨rfl, hp1, hb1⟩; have HP1 : Hid (PCells w1 pb s q ev op) := hp1; have HB1 : Hid (ByP pb w w1) := HBY.out.trans hb1; clear hp1 hb1)
            | (go_at_call_has 21 (Value.string ⟨#[10]⟩); refine (CB.out _ HP1.out).mono ?_; rintro e w2 ⟨rfl, hp2, hb2⟩; have HP2 : Hid (PCells w2 pb s q ev op) := hp2; have HB2 : Hid (ByP pb w w2) := HB1.out.trans hb2; clear hp2 hb2)
            | (go_at_call_has 21 (Value.string ⟨#[9]⟩); refine (CD.out _ HP2.out).mono ?_; rintro e w3 ⟨rfl, hp3, hb3⟩; have HP3 : Hid (PCells w3 pb s q ev op) := hp3; have HB3 : Hid (ByP pb w w3) := HB2.out.trans hb3; obtain ⟨y0, y1, y2, y3, y4, y5, y6, y7⟩ := hp3; clear hb3))
            all_goals (exact bodyPost_ret (v := .bool true) (by simp [results, Tryd.results25, go_sem]) rfl ⟨by rw [HD.out], by rw [HBL.out]; exact HP3.out, HB3.out⟩)
          · have hgt : ¬ (p : Int) < (q : Int) := by omega
            have HD : Hid (decide (p < blTo s p) = false) := by
              have h : decide (p < blTo s p) = false := by rw [HBL.out]; exact decide_eq_false hpq'
              exact h
            go_wp2_with (first
            | (go_at_call_has 21 (Value.string ⟨#[32]⟩); refine (CA.out _ HPC.out).mono ?_; rintro e w1 ⟨rfl, hp1, hb1⟩; have HP1 : Hid (PCells w1 pb s q ev op) := hp1; have HB1 : Hid (ByP pb w w1) := HBY.out.trans hb1; clear hp1 hb1)
            | (go_at_call_has 21 (Value.string ⟨#[10]⟩); refine (CB.out _ HP1.out).mono ?_; rintro e w2 ⟨rfl, hp2, hb2⟩; have HP2 : Hid (PCells w2 pb s q ev op) := hp2; have HB2 : Hid (ByP pb w w2) := HB1.out.trans hb2; clear hp2 hb2)
            | (go_at_call_has 21 (Value.string ⟨#[9]⟩); refine (CD.out _ HP2.out).mono ?_; rintro e w3 ⟨rfl, hp3, hb3⟩; have HP3 : Hid (PCells w3 pb s q ev op) := hp3; have HB3 : Hid (ByP pb w w3) := HB2.out.trans hb3; obtain ⟨y0, y1, y2, y3, y4, y5, y6, y7⟩ := hp3; clear hb3))
            all_goals (exact bodyPost_ret (v := .bool false) (by simp [results, Tryd.results25, go_sem]) rfl ⟨by rw [HD.out], by rw [HBL.out]; exact HP3.out, HB3.out⟩)
        · skip
          have CA : Hid (∀ W, PCells W pb s q ev op → Calls Tryd.prog 21 #[.pointer (some ⟨pb, 0, none⟩), .string ⟨#[32]⟩] W fun e w' => e = .returned (.bool false) ∧ PCells w' pb s (q) ev op ∧ ByP pb W w') := fun W hW => by
            have h := skip_is pb s ⟨#[32]⟩ q ev op W hW hq hs (by show (1 : Nat) ≤ 100; decide)
            rwa [show skTo s q ⟨#[32]⟩ = q by unfold skTo; rw [ha]; rfl, ha] at h
          have CB : Hid (∀ W, PCells W pb s q ev op → Calls Tryd.prog 21 #[.pointer (some ⟨pb, 0, none⟩), .string ⟨#[10]⟩] W fun e w' => e = .returned (.bool false) ∧ PCells w' pb s (q) ev op ∧ ByP pb W w') := fun W hW => by
            have h := skip_is pb s ⟨#[10]⟩ q ev op W hW hq hs (by show (1 : Nat) ≤ 100; decide)
            rwa [show skTo s q ⟨#[10]⟩ = q by unfold skTo; rw [hb]; rfl, hb] at h
          have CD : Hid (∀ W, PCells W pb s q ev op → Calls Tryd.prog 21 #[.pointer (some ⟨pb, 0, none⟩), .string ⟨#[9]⟩] W fun e w' => e = .returned (.bool true) ∧ PCells w' pb s (q + 1) ev op ∧ ByP pb W w') := fun W hW => by
            have h := skip_is pb s ⟨#[9]⟩ q ev op W hW hq hs (by show (1 : Nat) ≤ 100; decide)
            rwa [show skTo s q ⟨#[9]⟩ = q + 1 by unfold skTo; rw [hd]; rfl, hd] at h
          have HBL : Hid (blB s q = true) := by
            have h : blB s q = true := by unfold blB; rw [ha, hb, hd]; rfl
            exact h
          have hql := bl_lt hq HBL.out
          clear ha hb hd
          go_wp2_with (first
            | (go_at_call_has 21 (Value.string ⟨#[32]⟩); refine (CA.out _ HPC.out).mono ?_; rintro e w1 ⟨rfl, hp1, hb1⟩; have HP1 : Hid (PCells w1 pb s q ev op) := hp1; have HB1 : Hid (ByP pb w w1) := HBY.out.trans hb1; clear hp1 hb1)
            | (go_at_call_has 21 (Value.string ⟨#[10]⟩); refine (CB.out _ HP1.out).mono ?_; rintro e w2 ⟨rfl, hp2, hb2⟩; have HP2 : Hid (PCells w2 pb s q ev op) := hp2; have HB2 : Hid (ByP pb w w2) := HB1.out.trans hb2; clear hp2 hb2)
            | (go_at_call_has 21 (Value.string ⟨#[9]⟩); refine (CD.out _ HP2.out).mono ?_; rintro e w3 ⟨rfl, hp3, hb3⟩; have HP3 : Hid (PCells w3 pb s (q + 1) ev op) := hp3; have HB3 : Hid (ByP pb w w3) := HB2.out.trans hb3; clear hp3 hb3))
          go_roundg (s.size - (q + 1))
          case rel => exact ⟨q + 1, by omega, by omega, rfl, by rw [← blTo_step hq HBL.out]; exact HBT.out, HP3.out, HB3.out⟩
          case measure => omega
      · skip
        have CA : Hid (∀ W, PCells W pb s q ev op → Calls Tryd.prog 21 #[.pointer (some ⟨pb, 0, none⟩), .string ⟨#[32]⟩] W fun e w' => e = .returned (.bool false) ∧ PCells w' pb s (q) ev op ∧ ByP pb W w') := fun W hW => by
          have h := skip_is pb s ⟨#[32]⟩ q ev op W hW hq hs (by show (1 : Nat) ≤ 100; decide)
          rwa [show skTo s q ⟨#[32]⟩ = q by unfold skTo; rw [ha]; rfl, ha] at h
        have CB : Hid (∀ W, PCells W pb s q ev op → Calls Tryd.prog 21 #[.pointer (some ⟨pb, 0, none⟩), .string ⟨#[10]⟩] W fun e w' => e = .returned (.bool true) ∧ PCells w' pb s (q + 1) ev op ∧ ByP pb W w') := fun W hW => by
          have h := skip_is pb s ⟨#[10]⟩ q ev op W hW hq hs (by show (1 : Nat) ≤ 100; decide)
          rwa [show skTo s q ⟨#[10]⟩ = q + 1 by unfold skTo; rw [hb]; rfl, hb] at h
        have HBL : Hid (blB s q = true) := by
          have h : blB s q = true := by unfold blB; rw [ha, hb]; rfl
          exact h
        have hql := bl_lt hq HBL.out
        clear ha hb
        go_wp2_with (first
          | (go_at_call_has 21 (Value.string ⟨#[32]⟩); refine (CA.out _ HPC.out).mono ?_; rintro e w1 ⟨rfl, hp1, hb1⟩; have HP1 : Hid (PCells w1 pb s q ev op) := hp1; have HB1 : Hid (ByP pb w w1) := HBY.out.trans hb1; clear hp1 hb1)
          | (go_at_call_has 21 (Value.string ⟨#[10]⟩); refine (CB.out _ HP1.out).mono ?_; rintro e w2 ⟨rfl, hp2, hb2⟩; have HP2 : Hid (PCells w2 pb s (q + 1) ev op) := hp2; have HB2 : Hid (ByP pb w w2) := HB1.out.trans hb2; clear hp2 hb2))
        go_roundg (s.size - (q + 1))
        case rel => exact ⟨q + 1, by omega, by omega, rfl, by rw [← blTo_step hq HBL.out]; exact HBT.out, HP2.out, HB2.out⟩
        case measure => omega
    · skip
      have CA : Hid (∀ W, PCells W pb s q ev op → Calls Tryd.prog 21 #[.pointer (some ⟨pb, 0, none⟩), .string ⟨#[32]⟩] W fun e w' => e = .returned (.bool true) ∧ PCells w' pb s (q + 1) ev op ∧ ByP pb W w') := fun W hW => by
        have h := skip_is pb s ⟨#[32]⟩ q ev op W hW hq hs (by show (1 : Nat) ≤ 100; decide)
        rwa [show skTo s q ⟨#[32]⟩ = q + 1 by unfold skTo; rw [ha]; rfl, ha] at h
      have HBL : Hid (blB s q = true) := by
        have h : blB s q = true := by unfold blB; rw [ha]; rfl
        exact h
      have hql := bl_lt hq HBL.out
      clear ha
      go_wp2_with (first
        | (go_at_call_has 21 (Value.string ⟨#[32]⟩); refine (CA.out _ HPC.out).mono ?_; rintro e w1 ⟨rfl, hp1, hb1⟩; have HP1 : Hid (PCells w1 pb s (q + 1) ev op) := hp1; have HB1 : Hid (ByP pb w w1) := HBY.out.trans hb1; clear hp1 hb1))
      go_roundg (s.size - (q + 1))
      case rel => exact ⟨q + 1, by omega, by omega, rfl, by rw [← blTo_step hq HBL.out]; exact HBT.out, HP1.out, HB1.out⟩
      case measure => omega
end Go.Proofs.YtoifdcipialciaaDoor
