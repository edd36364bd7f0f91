/-
  CONTRACT of xml.Parse.
-/
import Derived.Test.YtoifdcipialciaaDoorPxPar
set_option linter.unusedVariables false
namespace Go.Proofs.YtoifdcipialciaaDoor
set_option maxRecDepth 100000
open Go.RowKit

def evAt (L : List Ev) (i : Nat) : Ev := L.getD i ⟨0, ⟨#[]⟩, ⟨#[]⟩⟩
def checkL (L : List Ev) : Int := checkN (evAt L) L.length
def parseM (s : ByteArray) : Int × List Ev :=
  if 4000 < s.size then (1, []) else if (documentM s).1 = 0 then (if checkL (documentM s).2.2.1 = 0 then (0, (documentM s).2.2.1) else (checkL (documentM s).2.2.1, [])) else ((documentM s).1, [])
theorem evsCp_at : ∀ (L : List Ev) (i : Nat), i < L.length → (evsCp L)[i * 3]? = some (.int .i64 (evAt L i).kind) ∧ (evsCp L)[i * 3 + 1]? = some (.string (evAt L i).name) ∧ (evsCp L)[i * 3 + 2]? = some (.string (evAt L i).value)
  | [], i, h => by simp at h
  | e :: L, 0, h => ⟨rfl, rfl, rfl⟩
  | e :: L, i + 1, h => by
    have h3 := evsCp_at L i (by simp at h; omega)
    have e1 : evsCp (e :: L) = evCp e ++ evsCp L := by simp [evsCp]
    have e2 : evAt (e :: L) (i + 1) = evAt L i := by simp [evAt]
    have e3 : (evCp e).length = 3 := rfl
    rw [e1, e2]
    refine ⟨?_, ?_, ?_⟩
    · rw [List.getElem?_append_right (by omega), e3, show (i + 1) * 3 - 3 = i * 3 by omega]; exact h3.1
    · rw [List.getElem?_append_right (by omega), e3, show (i + 1) * 3 + 1 - 3 = i * 3 + 1 by omega]; exact h3.2.1
    · rw [List.getElem?_append_right (by omega), e3, show (i + 1) * 3 + 2 - 3 = i * 3 + 2 by omega]; exact h3.2.2
theorem add_off (g j : Nat) : (⟨g, 0, none⟩ : Addr).add j = ⟨g, j, none⟩ := by cases j <;> simp [Addr.add]
theorem evs_of {w : World} {base g cap : Nat} {L : List Ev} (h : w.ownsRow base 31 3 (.slice (some ⟨g, 0, none⟩) L.length cap) L.length (evsCp L)) : EvsAt w g 0 L.length (evAt L) := by
  intro i hi
  obtain ⟨h1, h2, h3⟩ := evsCp_at L i hi
  have c1 := h.cells (g := g) rfl _ _ h1
  have c2 := h.cells (g := g) rfl _ _ h2
  have c3 := h.cells (g := g) rfl _ _ h3
  rw [add_off] at c1 c2 c3
  rw [Nat.zero_add]
  exact ⟨c1, c2, c3⟩
theorem check_own {w : World} {base : Nat} {ev : Value} {L : List Ev} (h : w.ownsRow base 31 3 ev L.length (evsCp L)) (hf : Fine L) (henv : Env w) :
    Calls Tryd.prog 9 #[ev] w fun e w' => e = .returned (.int .i64 (checkL L)) ∧ Below w.heap.size w w' := by
  have hlt := h.lt
  have hev := fun g cap (e : ev = .slice (some ⟨g, 0, none⟩) L.length cap) => evs_of (g := g) (cap := cap) (by rw [← e]; exact h)
  rcases h.2 with ⟨rfl, h0⟩ | ⟨g, cap, cur, rfl, hb, hg, hn, hm, hz, ht⟩
  · have e : L = [] := List.eq_nil_of_length_eq_zero h0
    subst e
    exact check_zero none 0 w
  · refine check_any g 0 L.length cap (evAt L) w hn hm henv (hlt g rfl).2 (hev g cap rfl) ?_
    intro i hi
    have hm : evAt L i ∈ L := by
      unfold evAt
      rw [List.getD_eq_getElem?_getD, List.getElem?_eq_getElem hi]
      exact List.getElem_mem hi
    have := hf _ hm
    unfold maxLen
    omega
/-- what xml.Parse answers: events, in a row of the call's own; an error -/
def ParsePost (w : World) (r : Int × List Ev) (e : Ending) (w' : World) : Prop :=
  ∃ ev, e = .returned (.tuple #[ev, .int .i64 r.1]) ∧ w'.ownsRow w.heap.size 31 3 ev r.2.length (evsCp r.2) ∧ Below w.heap.size w w'
theorem nilRow (w : World) (base : Nat) (e : TypeId) (size : Nat) : w.ownsRow base e size (.slice none 0 0) 0 [] := World.ownsRow_nil _ _ _ _
theorem ParsePost.bad {w w' : World} {x : Int} (h : Below w.heap.size w w') : ParsePost w (x, []) (.returned (.tuple #[.slice none 0 0, .int .i64 x])) w' := ⟨_, rfl, World.ownsRow_nil _ _ _ _, h⟩
theorem own_low {w : World} {a b : Nat} {e : TypeId} {size : Nat} {v : Value} {n : Nat} {xs : List Value} (h : w.ownsRow a e size v n xs) (hab : b ≤ a) : w.ownsRow b e size v n xs := by
  refine ⟨h.1, ?_⟩
  rcases h.2 with h1 | ⟨g, cap, cur, h1, h2, h3⟩
  · exact .inl h1
  · exact .inr ⟨g, cap, cur, h1, Nat.le_trans hab h2, h3⟩
set_option maxHeartbeats 1600000 in
theorem parse_is (s : ByteArray) (w : World) (hs : s.size ≤ maxLen) (ht : EscTab w) (hv : Env w) :
    Calls Tryd.prog 5 #[.string s] w (ParsePost w (parseM s)) := by
  unfold maxLen at hs
  by_cases hb : 4000 < s.size
  · have HR : Hid (parseM s = (1, [])) := if_pos hb
    rw [HR.out]
    have hbi : (4000 : Int) < (s.size : Int) := by omega
    go_enter Tryd.func5, Tryd.ntmps5
    go_wp2
    all_goals (exact bodyPost_ret (v := .tuple #[.slice none 0 0, .int .i64 1]) (by simp [results, Tryd.results5, go_sem]) rfl (ParsePost.bad (Below.refl _ _)))
  · have hbi : ¬ (4000 : Int) < (s.size : Int) := by omega
    have hB : PBase w w.heap.size := ⟨rfl, ht, hv⟩
    obtain ⟨W1, hW1⟩ : ∃ W, W = w.alloc (.cells #[.string s, .int .i64 0, .slice none 0 0, .slice none 0 0] 35) := ⟨_, rfl⟩
    have HP1 : Hid (PS w W1 w.heap.size s 0 [] []) := by
      have h : PS w W1 w.heap.size s 0 [] [] := by
        rw [hW1]
        refine ⟨⟨.slice none 0 0, .slice none 0 0, ⟨by simp, by simp, by simp, by simp, by simp [go_sem], by simp [go_sem], by simp [go_sem], by simp⟩, World.ownsRow_nil _ _ _ _, World.ownsRow_nil _ _ _ _, fun k h => by simp [Value.ownBlock] at h⟩, (Below.refl _ _).alloc (Nat.le_refl _) _⟩
      exact h
    have CD : Hid (Calls Tryd.prog 8 #[.pointer (some ⟨w.heap.size, 0, none⟩)] W1 (PPost w w.heap.size s (documentM s))) := document_is hB HP1.out (by omega)
    have HFI : Hid (Fine (documentM s).2.2.1) := documentM_fine (by omega)
    have HR : Hid (parseM s = if (documentM s).1 = 0 then (if checkL (documentM s).2.2.1 = 0 then (0, (documentM s).2.2.1) else (checkL (documentM s).2.2.1, [])) else ((documentM s).1, [])) := if_neg hb
    rw [hW1] at CD
    clear hW1 HP1
    rw [HR.out]
    clear HR
    generalize documentM s = D at CD HFI ⊢
    obtain ⟨dE, dP, dL, dO⟩ := D
    by_cases e0 : dE = 0
    · subst e0
      have CK : Hid (∀ W ev, W.ownsRow (w.heap.size + 1) 31 3 ev dL.length (evsCp dL) → Below w.heap.size w W → Calls Tryd.prog 9 #[ev] W fun e w' => e = .returned (.int .i64 (checkL dL)) ∧ Below W.heap.size W w') := fun W ev h1 h2 => check_own h1 HFI.out (hv.below h2)
      obtain ⟨R, hR⟩ : ∃ R, R = (if (0 : Int) = 0 then (if checkL dL = 0 then ((0 : Int), dL) else (checkL dL, [])) else ((0 : Int), [])) := ⟨_, rfl⟩
      have HR : Hid (R = if checkL dL = 0 then ((0 : Int), dL) else (checkL dL, [])) := by rw [if_pos rfl] at hR; exact hR
      dsimp only
      rw [← hR]
      clear hR
      generalize checkL dL = c at CK HR
      by_cases e1 : c = 0
      · subst e1
        have HR2 : Hid (R = (0, dL)) := by have h := HR.out; rw [if_pos rfl] at h; exact h
        clear HR
        go_enter Tryd.func5, Tryd.ntmps5
        go_wp2_with (first
          | (go_at_call 8; refine CD.out.mono ?_; rintro e w2 ⟨rfl, _, hp2⟩; obtain ⟨⟨ev, op, hc, hE, hRo, hA⟩, lo⟩ := hp2 rfl; have HC2 : Hid (PCells w2 w.heap.size s dP ev op) := hc; have HE2 : Hid (w2.ownsRow (w.heap.size + 1) 31 3 ev dL.length (evsCp dL)) := hE; have HLO2 : Hid (Below w.heap.size w w2) := lo; obtain ⟨h0, h1, h2, h3, h4, h5, h6, h7⟩ := hc; clear hE hRo hA lo hp2)
          | (go_at_call 9; refine (CK.out _ _ HE2.out HLO2.out).mono ?_; rintro e w3 ⟨rfl, hb3⟩; have HC3 : Hid (PCells w3 w.heap.size s dP ev op) := HC2.out.below hb3; have HE3 : Hid (w3.ownsRow (w.heap.size + 1) 31 3 ev dL.length (evsCp dL)) := own_keepP HE2.out (fun b k1 k2 _ => hb3.block b k2); have HLO3 : Hid (Below w.heap.size w w3) := HLO2.out.trans (hb3.mono (by omega)); obtain ⟨y0, y1, y2, y3, y4, y5, y6, y7⟩ := HC3.out; clear hb3))
        all_goals (exact bodyPost_ret (v := .tuple #[ev, .int .i64 0]) (by simp [results, Tryd.results5, go_sem]) rfl (by rw [HR2.out]; exact ⟨ev, rfl, own_low HE3.out (by omega), HLO3.out⟩))
      · have HR2 : Hid (R = (c, [])) := by have h := HR.out; rw [if_neg e1] at h; exact h
        have t0 : (c != 0) = true := by rw [bne_iff_ne]; exact e1
        clear HR e1
        go_enter Tryd.func5, Tryd.ntmps5
        go_wp2_with (first
          | (go_at_call 8; refine CD.out.mono ?_; rintro e w2 ⟨rfl, _, hp2⟩; obtain ⟨⟨ev, op, hc, hE, hRo, hA⟩, lo⟩ := hp2 rfl; have HC2 : Hid (PCells w2 w.heap.size s dP ev op) := hc; have HE2 : Hid (w2.ownsRow (w.heap.size + 1) 31 3 ev dL.length (evsCp dL)) := hE; have HLO2 : Hid (Below w.heap.size w w2) := lo; obtain ⟨h0, h1, h2, h3, h4, h5, h6, h7⟩ := hc; clear hE hRo hA lo hp2)
          | (go_at_call 9; refine (CK.out _ _ HE2.out HLO2.out).mono ?_; rintro e w3 ⟨rfl, hb3⟩; have HLO3 : Hid (Below w.heap.size w w3) := HLO2.out.trans (hb3.mono (by omega)); clear hb3))
        all_goals (exact bodyPost_ret (v := .tuple #[.slice none 0 0, .int .i64 c]) (by simp [results, Tryd.results5, go_sem]) rfl (by rw [HR2.out]; exact ParsePost.bad HLO3.out))
    · have t0 : (dE != 0) = true := by rw [bne_iff_ne]; exact e0
      dsimp only
      rw [if_neg e0]
      clear e0
      go_enter Tryd.func5, Tryd.ntmps5
      go_wp2_with (first
        | (go_at_call 8; refine CD.out.mono ?_; rintro e w2 ⟨rfl, lo2, _⟩))
      all_goals (exact bodyPost_ret (v := .tuple #[.slice none 0 0, .int .i64 dE]) (by simp [results, Tryd.results5, go_sem]) rfl (ParsePost.bad lo2))
end Go.Proofs.YtoifdcipialciaaDoor
