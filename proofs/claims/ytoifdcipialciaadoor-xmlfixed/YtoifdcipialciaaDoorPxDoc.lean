/-
  CONTRACTS of the parser's content and document, and of xml.Parse.
-/
import Derived.Test.YtoifdcipialciaaDoorPxStart
import Derived.Test.YtoifdcipialciaaDoorEvOpen
set_option linter.unusedVariables false
namespace Go.Proofs.YtoifdcipialciaaDoor
set_option maxRecDepth 100000
open Go.RowKit

def ctR (h1 h2 h3 : Bool) (t e c st : PR) : PR := if h1 = true then (if h2 = true then e else if h3 = true then c else st) else t
def contentM (s : ByteArray) (p : Nat) (L : List Ev) (O : List ByteArray) : PR :=
  ctR (hitB s p ⟨#[60]⟩) (hitB s (p + 1) ⟨#[47]⟩) (hitB s (p + 1) ⟨#[33]⟩) (textM s p L O) (enM s (p + 2) L O) (commentM s (p + 2) L O) (startM s (p + 1) L O)
set_option maxHeartbeats 1600000 in
theorem content_walk (w0 : World) (pb : Nat) (s : ByteArray) (h1 h2 h3 : Bool) (t e c st : PR) (P0 P1 P2 P3 : World → Prop) (w : World) (hP : P0 w)
    (c1 : ∀ W, P0 W → Calls Tryd.prog 21 #[.pointer (some ⟨pb, 0, none⟩), .string ⟨#[60]⟩] W fun e w' => e = .returned (.bool h1) ∧ (if h1 = true then P1 w' else P0 w'))
    (c2 : ∀ W, P1 W → Calls Tryd.prog 21 #[.pointer (some ⟨pb, 0, none⟩), .string ⟨#[47]⟩] W fun e w' => e = .returned (.bool h2) ∧ (if h2 = true then P2 w' else P1 w'))
    (c3 : ∀ W, P1 W → Calls Tryd.prog 21 #[.pointer (some ⟨pb, 0, none⟩), .string ⟨#[33]⟩] W fun e w' => e = .returned (.bool h3) ∧ (if h3 = true then P3 w' else P1 w'))
    (ct : ∀ W, P0 W → Calls Tryd.prog 27 #[.pointer (some ⟨pb, 0, none⟩)] W (PPost w0 pb s t))
    (ce : h1 = true → h2 = true → ∀ W, P2 W → Calls Tryd.prog 28 #[.pointer (some ⟨pb, 0, none⟩)] W (PPost w0 pb s e))
    (cc : h1 = true → h3 = true → ∀ W, P3 W → Calls Tryd.prog 29 #[.pointer (some ⟨pb, 0, none⟩)] W (PPost w0 pb s c))
    (cs : h1 = true → ∀ W, P1 W → Calls Tryd.prog 16 #[.pointer (some ⟨pb, 0, none⟩)] W (PPost w0 pb s st)) :
    Calls Tryd.prog 17 #[.pointer (some ⟨pb, 0, none⟩)] w (PPost w0 pb s (ctR h1 h2 h3 t e c st)) := by
  cases h1
  · have C1 : Hid (∀ W, P0 W → Calls Tryd.prog 21 #[.pointer (some ⟨pb, 0, none⟩), .string ⟨#[60]⟩] W fun e w' => e = .returned (.bool false) ∧ P0 w') := fun W hW => (c1 W hW).mono fun e w' ⟨k1, k2⟩ => ⟨k1, k2⟩
    have CT : Hid (∀ W, P0 W → Calls Tryd.prog 27 #[.pointer (some ⟨pb, 0, none⟩)] W (PPost w0 pb s t)) := ct
    have HR : Hid (ctR false h2 h3 t e c st = t) := rfl
    rw [HR.out]
    clear c1 c2 c3 ct ce cc cs HR
    go_enter Tryd.func17, Tryd.ntmps17
    go_wp2_with (first
      | (go_at_call 21; refine (C1.out _ hP).mono ?_; rintro e w1 ⟨rfl, hp1⟩)
      | (go_at_call 27; refine (CT.out _ hp1).mono ?_; rintro e w2 ⟨rfl, hp2⟩))
    all_goals (exact bodyPost_ret (v := .int .i64 t.1) (by simp [results, Tryd.results17, go_sem]) rfl ⟨rfl, hp2⟩)
  · have C1 : Hid (∀ W, P0 W → Calls Tryd.prog 21 #[.pointer (some ⟨pb, 0, none⟩), .string ⟨#[60]⟩] W fun e w' => e = .returned (.bool true) ∧ P1 w') := fun W hW => (c1 W hW).mono fun e w' ⟨k1, k2⟩ => ⟨k1, k2⟩
    cases h2
    · have C2 : Hid (∀ W, P1 W → Calls Tryd.prog 21 #[.pointer (some ⟨pb, 0, none⟩), .string ⟨#[47]⟩] W fun e w' => e = .returned (.bool false) ∧ P1 w') := fun W hW => (c2 W hW).mono fun e w' ⟨k1, k2⟩ => ⟨k1, k2⟩
      cases h3
      · have C3 : Hid (∀ W, P1 W → Calls Tryd.prog 21 #[.pointer (some ⟨pb, 0, none⟩), .string ⟨#[33]⟩] W fun e w' => e = .returned (.bool false) ∧ P1 w') := fun W hW => (c3 W hW).mono fun e w' ⟨k1, k2⟩ => ⟨k1, k2⟩
        have CS : Hid (∀ W, P1 W → Calls Tryd.prog 16 #[.pointer (some ⟨pb, 0, none⟩)] W (PPost w0 pb s st)) := cs rfl
        have HR : Hid (ctR true false false t e c st = st) := rfl
        rw [HR.out]
        clear c1 c2 c3 ct ce cc cs HR
        go_enter Tryd.func17, Tryd.ntmps17
        go_wp2_with (first
          | (go_at_call_has 21 (Value.string ⟨#[60]⟩); refine (C1.out _ hP).mono ?_; rintro e w1 ⟨rfl, hp1⟩)
          | (go_at_call_has 21 (Value.string ⟨#[47]⟩); refine (C2.out _ hp1).mono ?_; rintro e w2 ⟨rfl, hp2⟩)
          | (go_at_call_has 21 (Value.string ⟨#[33]⟩); refine (C3.out _ hp2).mono ?_; rintro e w3 ⟨rfl, hp3⟩)
          | (go_at_call 16; refine (CS.out _ hp3).mono ?_; rintro e w4 ⟨rfl, hp4⟩))
        all_goals (exact bodyPost_ret (v := .int .i64 st.1) (by simp [results, Tryd.results17, go_sem]) rfl ⟨rfl, hp4⟩)
      · have C3 : Hid (∀ W, P1 W → Calls Tryd.prog 21 #[.pointer (some ⟨pb, 0, none⟩), .string ⟨#[33]⟩] W fun e w' => e = .returned (.bool true) ∧ P3 w') := fun W hW => (c3 W hW).mono fun e w' ⟨k1, k2⟩ => ⟨k1, k2⟩
        have CC : Hid (∀ W, P3 W → Calls Tryd.prog 29 #[.pointer (some ⟨pb, 0, none⟩)] W (PPost w0 pb s c)) := cc rfl rfl
        have HR : Hid (ctR true false true t e c st = c) := rfl
        rw [HR.out]
        clear c1 c2 c3 ct ce cc cs HR
        go_enter Tryd.func17, Tryd.ntmps17
        go_wp2_with (first
          | (go_at_call_has 21 (Value.string ⟨#[60]⟩); refine (C1.out _ hP).mono ?_; rintro e w1 ⟨rfl, hp1⟩)
          | (go_at_call_has 21 (Value.string ⟨#[47]⟩); refine (C2.out _ hp1).mono ?_; rintro e w2 ⟨rfl, hp2⟩)
          | (go_at_call_has 21 (Value.string ⟨#[33]⟩); refine (C3.out _ hp2).mono ?_; rintro e w3 ⟨rfl, hp3⟩)
          | (go_at_call 29; refine (CC.out _ hp3).mono ?_; rintro e w4 ⟨rfl, hp4⟩))
        all_goals (exact bodyPost_ret (v := .int .i64 c.1) (by simp [results, Tryd.results17, go_sem]) rfl ⟨rfl, hp4⟩)
    · have C2 : Hid (∀ W, P1 W → Calls Tryd.prog 21 #[.pointer (some ⟨pb, 0, none⟩), .string ⟨#[47]⟩] W fun e w' => e = .returned (.bool true) ∧ P2 w') := fun W hW => (c2 W hW).mono fun e w' ⟨k1, k2⟩ => ⟨k1, k2⟩
      have CE : Hid (∀ W, P2 W → Calls Tryd.prog 28 #[.pointer (some ⟨pb, 0, none⟩)] W (PPost w0 pb s e)) := ce rfl rfl
      have HR : Hid (ctR true true h3 t e c st = e) := rfl
      rw [HR.out]
      clear c1 c2 c3 ct ce cc cs HR
      go_enter Tryd.func17, Tryd.ntmps17
      go_wp2_with (first
        | (go_at_call_has 21 (Value.string ⟨#[60]⟩); refine (C1.out _ hP).mono ?_; rintro e1 w1 ⟨rfl, hp1⟩)
        | (go_at_call_has 21 (Value.string ⟨#[47]⟩); refine (C2.out _ hp1).mono ?_; rintro e1 w2 ⟨rfl, hp2⟩)
        | (go_at_call 28; refine (CE.out _ hp2).mono ?_; rintro e1 w4 ⟨rfl, hp4⟩))
      all_goals (exact bodyPost_ret (v := .int .i64 e.1) (by simp [results, Tryd.results17, go_sem]) rfl ⟨rfl, hp4⟩)
theorem skip_if {w0 : World} {pb : Nat} {s : ByteArray} (t : ByteArray) (n : Nat) (hn : t.size = n) {p : Nat} {L : List Ev} {O : List ByteArray} {w : World} (h : PS w0 w pb s p L O) (hp : p ≤ s.size) (hs : s.size ≤ 4000) (ht : n ≤ 100) :
    Calls Tryd.prog 21 #[.pointer (some ⟨pb, 0, none⟩), .string t] w fun e w' => e = .returned (.bool (hitB s p t)) ∧ (if hitB s p t = true then PS w0 w' pb s (p + n) L O else PS w0 w' pb s p L O) := by
  refine (skip_ps t h hp hs (by omega)).mono ?_
  rintro e w' ⟨k1, k2⟩
  refine ⟨k1, ?_⟩
  unfold skTo at k2
  by_cases hh : hitB s p t = true
  · rw [if_pos hh] at k2 ⊢; rw [hn] at k2; exact k2
  · rw [if_neg hh] at k2 ⊢; exact k2
theorem content_is {w0 : World} {pb : Nat} {s : ByteArray} {p : Nat} {L : List Ev} {O : List ByteArray} {w : World} (hB : PBase w0 pb) (h : PS w0 w pb s p L O) (hp : p ≤ s.size) (hs : s.size ≤ 4000) (hL : L.length ≤ 20000) (hO : O.length ≤ 20000) (hO0 : O ≠ []) :
    Calls Tryd.prog 17 #[.pointer (some ⟨pb, 0, none⟩)] w (PPost w0 pb s (contentM s p L O)) := by
  have a1 : hitB s p ⟨#[60]⟩ = true → p + 1 ≤ s.size := fun h => hit_le (t := ⟨#[60]⟩) hp h
  have a2 : hitB s p ⟨#[60]⟩ = true → hitB s (p + 1) ⟨#[47]⟩ = true → p + 2 ≤ s.size := fun h h' => hit_le (t := ⟨#[47]⟩) (a1 h) h'
  have a3 : hitB s p ⟨#[60]⟩ = true → hitB s (p + 1) ⟨#[33]⟩ = true → p + 2 ≤ s.size := fun h h' => hit_le (t := ⟨#[33]⟩) (a1 h) h'
  have c1 : ∀ W, PS w0 W pb s p L O → Calls Tryd.prog 21 #[.pointer (some ⟨pb, 0, none⟩), .string ⟨#[60]⟩] W fun e w' => e = .returned (.bool (hitB s p ⟨#[60]⟩)) ∧ (if hitB s p ⟨#[60]⟩ = true then (PS w0 w' pb s (p + 1) L O ∧ p + 1 ≤ s.size) else PS w0 w' pb s p L O) := fun W hW => (skip_if ⟨#[60]⟩ 1 rfl hW hp hs (by decide)).mono fun e w' ⟨k1, k2⟩ => ⟨k1, by
    by_cases hh : hitB s p ⟨#[60]⟩ = true
    · rw [if_pos hh] at k2 ⊢; exact ⟨k2, a1 hh⟩
    · rw [if_neg hh] at k2 ⊢; exact k2⟩
  have c2 : ∀ W, (PS w0 W pb s (p + 1) L O ∧ p + 1 ≤ s.size) → Calls Tryd.prog 21 #[.pointer (some ⟨pb, 0, none⟩), .string ⟨#[47]⟩] W fun e w' => e = .returned (.bool (hitB s (p + 1) ⟨#[47]⟩)) ∧ (if hitB s (p + 1) ⟨#[47]⟩ = true then PS w0 w' pb s (p + 2) L O else (PS w0 w' pb s (p + 1) L O ∧ p + 1 ≤ s.size)) := fun W hW => (skip_if ⟨#[47]⟩ 1 rfl hW.1 hW.2 hs (by decide)).mono fun e w' ⟨k1, k2⟩ => ⟨k1, by
    by_cases hh : hitB s (p + 1) ⟨#[47]⟩ = true
    · rw [if_pos hh] at k2 ⊢; exact k2
    · rw [if_neg hh] at k2 ⊢; exact ⟨k2, hW.2⟩⟩
  have c3 : ∀ W, (PS w0 W pb s (p + 1) L O ∧ p + 1 ≤ s.size) → Calls Tryd.prog 21 #[.pointer (some ⟨pb, 0, none⟩), .string ⟨#[33]⟩] W fun e w' => e = .returned (.bool (hitB s (p + 1) ⟨#[33]⟩)) ∧ (if hitB s (p + 1) ⟨#[33]⟩ = true then PS w0 w' pb s (p + 2) L O else (PS w0 w' pb s (p + 1) L O ∧ p + 1 ≤ s.size)) := fun W hW => (skip_if ⟨#[33]⟩ 1 rfl hW.1 hW.2 hs (by decide)).mono fun e w' ⟨k1, k2⟩ => ⟨k1, by
    by_cases hh : hitB s (p + 1) ⟨#[33]⟩ = true
    · rw [if_pos hh] at k2 ⊢; exact k2
    · rw [if_neg hh] at k2 ⊢; exact ⟨k2, hW.2⟩⟩
  unfold contentM
  generalize hitB s p ⟨#[60]⟩ = h1 at *
  generalize hitB s (p + 1) ⟨#[47]⟩ = h2 at *
  generalize hitB s (p + 1) ⟨#[33]⟩ = h3 at *
  exact content_walk w0 pb s h1 h2 h3 _ _ _ _ (fun W => PS w0 W pb s p L O) (fun W => PS w0 W pb s (p + 1) L O ∧ p + 1 ≤ s.size) (fun W => PS w0 W pb s (p + 2) L O) (fun W => PS w0 W pb s (p + 2) L O) w h c1 c2 c3 (fun W hW => text_is hB hW hp hs (by omega)) (fun k1 k2 W hW => end_is hB hW (a2 k1 k2) hs (by omega) (by omega) hO0) (fun k1 k2 W hW => comment_is hB hW (a3 k1 k2) hs (by omega)) (fun k1 W hW => start_is hB hW.1 hW.2 hs hL hO)

/-- how far a piece of content goes -/
theorem hit_byte {s : ByteArray} {p : Nat} (hp : p ≤ s.size) (h : hitB s p ⟨#[60]⟩ = false) : ¬ byteAt s p = 60 := by
  intro e
  have hlt : p < s.size := by
    rcases Nat.lt_or_ge p s.size with h' | h'
    · exact h'
    · unfold byteAt at e
      rw [List.getD_eq_getElem?_getD, List.getElem?_eq_none (by exact h')] at e
      simp at e
  unfold hitB at h
  have e1 : (s.extract p s.size).data.toList = byteU s p :: (s.data.toList.drop (p + 1)) := by
    rw [Lib.extract_data]
    have hl : p < s.data.toList.length := hlt
    rw [List.drop_eq_getElem_cons hl, show byteU s p = s.data.toList[p] by unfold byteU; rw [List.getD_eq_getElem?_getD, List.getElem?_eq_getElem hl]; rfl]
    rw [List.take_of_length_le]
    simp
    show s.size - (p + 1) + 1 ≤ s.size - p
    omega
  have e2 : byteU s p = 60 := by
    apply UInt8.toNat_inj.1
    have : ((byteU s p).toNat : Int) = 60 := e
    show (byteU s p).toNat = 60
    omega
  rw [e1, e2] at h
  simp [Lib.hasPrefix] at h
theorem co_ok {s : ByteArray} {q : Nat} (hq : q ≤ s.size) (h : (coC s q).2.2 = true) : q + ((coC s q).1.length + 3) ≤ s.size := by
  unfold coC Lib.cut at h ⊢
  by_cases h0 : 0 ≤ Lib.index (s.extract q s.size).data.toList [45, 45, 62]
  · rw [if_pos h0]
    have hr := Lib.index_room _ _ h0

    have hz : (s.extract q s.size).data.toList.length = s.size - q := by
      show (s.extract q s.size).size = _
      rw [ByteArray.size_extract]; omega
    rw [hz] at hr
    show q + ((List.take _ _).length + 3) ≤ s.size
    rw [List.length_take]
    have h3 : (([45, 45, 62] : List UInt8).length : Int) = 3 := rfl
    omega
  · rw [if_neg h0] at h; simp at h
end Go.Proofs.YtoifdcipialciaaDoor
