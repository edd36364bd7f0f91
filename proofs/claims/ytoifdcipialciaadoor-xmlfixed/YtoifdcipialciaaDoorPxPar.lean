/-
  CONTRACTS of the parser's document, and of xml.Parse.
-/
import Derived.Test.YtoifdcipialciaaDoorPxDoc
set_option linter.unusedVariables false
namespace Go.Proofs.YtoifdcipialciaaDoor
set_option maxRecDepth 100000
open Go.RowKit

/-- events whose texts are short -/
def Fine (L : List Ev) : Prop := ∀ e ∈ L, e.name.size ≤ 4000 ∧ e.value.size ≤ 4000
theorem Fine.nil : Fine [] := fun _ h => by cases h
theorem Fine.snoc {L : List Ev} {e : Ev} (h : Fine L) (h1 : e.name.size ≤ 4000) (h2 : e.value.size ≤ 4000) : Fine (L ++ [e]) := by
  intro x hx
  rcases List.mem_append.1 hx with hx | hx
  · exact h x hx
  · rw [List.mem_singleton] at hx; subst hx; exact ⟨h1, h2⟩
theorem nmS_le {s : ByteArray} {p : Nat} (hs : s.size ≤ 4000) : (nmS s p).size ≤ 4000 := by
  unfold nmS
  split
  · decide
  · rw [ByteArray.size_extract]; omega
theorem vaF_len (s : ByteArray) (stop : Int) : ∀ k q acc, q ≤ s.size → (vaF s stop k q acc).2.2.length + q ≤ acc.length + (vaF s stop k q acc).2.1
  | 0, q, acc, hq => Nat.le_refl _
  | k + 1, q, acc, hq => by
    rw [vaF]
    by_cases h0 : q < s.size
    · rw [if_pos h0]
      by_cases h1 : byteAt s q = stop
      · rw [if_pos h1]; exact Nat.le_refl _
      · rw [if_neg h1]
        by_cases h2 : byteAt s q = 60
        · rw [if_pos h2]; exact Nat.le_refl _
        · rw [if_neg h2]
          by_cases h3 : byteAt s q = 38
          · rw [if_pos h3]
            by_cases h4 : esE s q = 0
            · rw [if_pos h4]
              have h5 := es_le hq h4
              have := vaF_len s stop k (esTo s q) (acc ++ [tab (esK s q)]) h5.2
              rw [List.length_append] at this
              simp only [List.length_singleton] at this
              omega
            · rw [if_neg h4]; exact Nat.le_refl _
          · rw [if_neg h3]
            have := vaF_len s stop k (q + 1) (acc ++ [byteU s q]) h0
            rw [List.length_append] at this
            simp only [List.length_singleton] at this
            omega
    · rw [if_neg h0]; exact Nat.le_refl _
theorem vaS_le {s : ByteArray} {stop : Int} {p : Nat} (hp : p ≤ s.size) (hs : s.size ≤ 4000) : (vaS s stop p).size ≤ 4000 := by
  unfold vaS
  split
  · have h1 := vaF_len s stop (s.size - p) p [] hp
    have h2 := vaF_le s stop (s.size - p) p [] hp
    show (vaR s stop p).2.2.length ≤ 4000
    unfold vaR
    simp only [List.length_nil] at h1
    omega
  · decide
theorem attrM_fine {s : ByteArray} {p : Nat} {L : List Ev} {O : List ByteArray} (hp : p ≤ s.size) (hs : s.size ≤ 4000) (h : Fine L) : Fine (attrM s p L O).2.2.1 := by
  unfold attrM
  by_cases e0 : nmE s p = 0
  · rw [if_pos e0]
    by_cases e1 : exE s (nmTo s p) ⟨#[61, 34]⟩ = 0
    · rw [if_pos e1]
      by_cases e2 : vaE s 34 (atP s p) = 0
      · rw [if_pos e2]
        have a3 : nmTo s p ≤ atP s p ∧ atP s p ≤ s.size := exTo_le (nmTo_le hp).2
        dsimp only
        exact h.snoc (nmS_le hs) (vaS_le a3.2 hs)
      · rw [if_neg e2]; exact Fine.nil
    · rw [if_neg e1]; exact Fine.nil
  · rw [if_neg e0]; exact Fine.nil
theorem stF_fine {s nm : ByteArray} {O : List ByteArray} (hs : s.size ≤ 4000) : ∀ k p L, p ≤ s.size → Fine L → Fine (stF s nm O k p L).2.2.1
  | 0, p, L, hp, h => Fine.nil
  | k + 1, p, L, hp, h => by
    obtain ⟨b1, b2⟩ := blTo_le hp
    rw [stF]
    unfold stR
    by_cases e0 : hitB s (blTo s p) ⟨#[62]⟩ = true
    · rw [if_pos e0]; exact h
    · rw [if_neg e0]
      by_cases e1 : hitB s (blTo s p) ⟨#[47]⟩ = true
      · rw [if_pos e1]
        dsimp only
        exact h.snoc (by decide) (by decide)
      · rw [if_neg e1]
        by_cases e2 : p < blTo s p
        · rw [if_pos e2]
          by_cases e3 : (attrM s (blTo s p) L O).1 = 0
          · rw [if_pos e3]
            obtain ⟨a1, a2, a3, a4⟩ := attrM_ok b2 e3
            exact stF_fine hs k _ _ a2 (attrM_fine b2 hs h)
          · rw [if_neg e3]; exact Fine.nil
        · rw [if_neg e2]; exact Fine.nil
theorem startM_fine {s : ByteArray} {p : Nat} {L : List Ev} {O : List ByteArray} (hp : p ≤ s.size) (hs : s.size ≤ 4000) (h : Fine L) : Fine (startM s p L O).2.2.1 := by
  unfold startM
  by_cases e0 : nmE s p = 0
  · rw [if_pos e0]
    exact stF_fine hs _ _ _ (nmTo_le hp).2 (h.snoc (nmS_le hs) (by show (0 : Nat) ≤ 4000; decide))
  · rw [if_neg e0]; exact Fine.nil
/-- what holds of what a method has told -/
structure Okay (s : ByteArray) (p : Nat) (L : List Ev) (O : List ByteArray) (r : PR) : Prop where
  fwd : p < r.2.1
  max : r.2.1 ≤ s.size
  evs : r.2.2.1.length + p ≤ L.length + r.2.1
  ops : r.2.2.2.length ≤ O.length + 1
theorem textM_ok {s : ByteArray} {p : Nat} {L : List Ev} {O : List ByteArray} (hp : p ≤ s.size) (hn : ¬ byteAt s p = 60) (h : (textM s p L O).1 = 0) : Okay s p L O (textM s p L O) := by
  unfold textM at h ⊢
  by_cases e0 : vaE s 60 p = 0
  · rw [if_pos e0]
    have h1 := va_lt hp hn e0
    have h2 := (vaTo_le (stop := 60) hp).2
    refine ⟨h1, h2, ?_, ?_⟩
    · show (L ++ _).length + p ≤ L.length + vaTo s 60 p
      rw [List.length_append]; simp only [List.length_singleton]; omega
    · show O.length ≤ O.length + 1
      omega
  · rw [if_neg e0] at h; exact (bad_no e0 h).elim
theorem enM_ok {s : ByteArray} {p : Nat} {L : List Ev} {O : List ByteArray} (hp : p ≤ s.size) (h : (enM s p L O).1 = 0) : Okay s p L O (enM s p L O) := by
  unfold enM endM at h ⊢
  by_cases e0 : nmE s p = 0
  · rw [if_pos e0] at h ⊢
    by_cases e1 : exE s (enP s p) ⟨#[62]⟩ = 0
    · rw [if_pos e1] at h ⊢
      by_cases e2 : lastB O (nmS s p) = true
      · rw [if_pos e2]
        have a1 := nm_lt hp e0
        have a2 : nmTo s p ≤ enP s p ∧ enP s p ≤ s.size := blTo_le (nmTo_le hp).2
        have a3 := exTo_le (t := ⟨#[62]⟩) a2.2
        generalize exTo s (enP s p) ⟨#[62]⟩ = x at a3 ⊢
        refine ⟨?_, ?_, ?_, ?_⟩
        · show p < x; omega
        · exact a3.2
        · show (L ++ _).length + p ≤ L.length + x
          rw [List.length_append]; simp only [List.length_singleton]; omega
        · show O.dropLast.length ≤ O.length + 1
          rw [List.length_dropLast]; omega
      · rw [if_neg e2] at h; exact (bad_no (by decide) h).elim
    · rw [if_neg e1] at h; exact (bad_no e1 h).elim
  · rw [if_neg e0] at h; exact (bad_no e0 h).elim
theorem commentM_ok {s : ByteArray} {p : Nat} {L : List Ev} {O : List ByteArray} (hp : p ≤ s.size) (h : (commentM s p L O).1 = 0) : Okay s p L O (commentM s p L O) := by
  have a1 := exTo_le (t := ⟨#[45, 45]⟩) hp
  unfold commentM at h ⊢
  generalize exTo s p ⟨#[45, 45]⟩ = x at a1 h ⊢
  generalize exE s p ⟨#[45, 45]⟩ = y at h ⊢
  unfold commM at h ⊢
  by_cases e0 : y = 0
  · rw [if_pos e0] at h ⊢
    by_cases e1 : (coC s x).2.2 = true
    · rw [if_pos e1]
      have a2 := co_ok a1.2 e1
      refine ⟨?_, ?_, ?_, ?_⟩
      · show p < x + ((coC s x).1.length + 3); omega
      · exact a2
      · show (L ++ _).length + p ≤ L.length + (x + ((coC s x).1.length + 3))
        rw [List.length_append]; simp only [List.length_singleton]; omega
      · show O.length ≤ O.length + 1; omega
    · rw [if_neg e1] at h; exact (bad_no (by decide) h).elim
  · rw [if_neg e0] at h; exact (bad_no e0 h).elim
theorem Okay.less {s : ByteArray} {p q : Nat} {L : List Ev} {O : List ByteArray} {r : PR} (h : Okay s q L O r) (hp : p ≤ q) : Okay s p L O r := ⟨by have := h.fwd; omega, h.max, by have := h.evs; omega, h.ops⟩
theorem contentM_ok {s : ByteArray} {p : Nat} {L : List Ev} {O : List ByteArray} (hp : p ≤ s.size) (h : (contentM s p L O).1 = 0) : Okay s p L O (contentM s p L O) := by
  have a1 : hitB s p ⟨#[60]⟩ = true → p + 1 ≤ s.size := fun h => hit_le (t := ⟨#[60]⟩) hp h
  have a2 : hitB s p ⟨#[60]⟩ = true → hitB s (p + 1) ⟨#[47]⟩ = true → p + 2 ≤ s.size := fun h h' => hit_le (t := ⟨#[47]⟩) (a1 h) h'
  have a3 : hitB s p ⟨#[60]⟩ = true → hitB s (p + 1) ⟨#[33]⟩ = true → p + 2 ≤ s.size := fun h h' => hit_le (t := ⟨#[33]⟩) (a1 h) h'
  have a0 : hitB s p ⟨#[60]⟩ = false → ¬ byteAt s p = 60 := hit_byte hp
  unfold contentM at h ⊢
  generalize hitB s p ⟨#[60]⟩ = h1 at *
  generalize hitB s (p + 1) ⟨#[47]⟩ = h2 at *
  generalize hitB s (p + 1) ⟨#[33]⟩ = h3 at *
  cases h1
  · exact textM_ok hp (a0 rfl) h
  · cases h2
    · cases h3
      · have := startM_ok (a1 rfl) h
        exact Okay.less ⟨this.1, this.2.1, this.2.2.1, this.2.2.2⟩ (Nat.le_succ p)
      · exact (commentM_ok (a3 rfl rfl) h).less (by omega)
    · exact (enM_ok (a2 rfl rfl) h).less (by omega)
theorem contentM_fine {s : ByteArray} {p : Nat} {L : List Ev} {O : List ByteArray} (hp : p ≤ s.size) (hs : s.size ≤ 4000) (h : Fine L) : Fine (contentM s p L O).2.2.1 := by
  have a1 : hitB s p ⟨#[60]⟩ = true → p + 1 ≤ s.size := fun h => hit_le (t := ⟨#[60]⟩) hp h
  unfold contentM
  generalize hitB s p ⟨#[60]⟩ = h1 at *
  generalize hitB s (p + 1) ⟨#[47]⟩ = h2 at *
  generalize hitB s (p + 1) ⟨#[33]⟩ = h3 at *
  cases h1
  · show Fine (textM s p L O).2.2.1
    unfold textM
    split
    · exact h.snoc (by show (0 : Nat) ≤ 4000; decide) (vaS_le hp hs)
    · exact Fine.nil
  · cases h2
    · cases h3
      · exact startM_fine (a1 rfl) hs h
      · show Fine (commentM s (p + 2) L O).2.2.1
        unfold commentM
        generalize exTo s (p + 2) ⟨#[45, 45]⟩ = x
        generalize exE s (p + 2) ⟨#[45, 45]⟩ = y
        unfold commM
        split
        · split
          · exact h.snoc (by show (0 : Nat) ≤ 4000; decide) (co_len s x hs)
          · exact Fine.nil
        · exact Fine.nil
    · show Fine (enM s (p + 2) L O).2.2.1
      unfold enM
      generalize exTo s (enP s (p + 2)) ⟨#[62]⟩ = x
      generalize exE s (enP s (p + 2)) ⟨#[62]⟩ = y
      unfold endM
      split
      · split
        · split
          · exact h.snoc (by decide) (by decide)
          · exact Fine.nil
        · exact Fine.nil
      · exact Fine.nil

def docF (s : ByteArray) : Nat → Nat → List Ev → List ByteArray → PR
  | 0, _, _, _ => bad 5
  | k + 1, p, L, O => if O.length = 0 then (if p < s.size then bad 4 else (0, p, L, O)) else (if (contentM s p L O).1 = 0 then docF s k (contentM s p L O).2.1 (contentM s p L O).2.2.1 (contentM s p L O).2.2.2 else bad (contentM s p L O).1)
def documentM (s : ByteArray) : PR :=
  if exE s 0 ⟨#[60]⟩ = 0 then (if (startM s (exTo s 0 ⟨#[60]⟩) [] []).1 = 0 then docF s (s.size + 1) (startM s (exTo s 0 ⟨#[60]⟩) [] []).2.1 (startM s (exTo s 0 ⟨#[60]⟩) [] []).2.2.1 (startM s (exTo s 0 ⟨#[60]⟩) [] []).2.2.2 else bad (startM s (exTo s 0 ⟨#[60]⟩) [] []).1) else bad (exE s 0 ⟨#[60]⟩)
theorem docF_fine {s : ByteArray} (hs : s.size ≤ 4000) : ∀ k p L O, p ≤ s.size → Fine L → Fine (docF s k p L O).2.2.1
  | 0, p, L, O, hp, h => Fine.nil
  | k + 1, p, L, O, hp, h => by
    rw [docF]
    split
    · split
      · exact Fine.nil
      · exact h
    · split
      · rename_i e
        exact docF_fine hs k _ _ _ (contentM_ok hp e).max (contentM_fine hp hs h)
      · exact Fine.nil
theorem documentM_fine {s : ByteArray} (hs : s.size ≤ 4000) : Fine (documentM s).2.2.1 := by
  have hx := (exTo_le (s := s) (t := ⟨#[60]⟩) (Nat.zero_le _)).2
  unfold documentM
  generalize exTo s 0 ⟨#[60]⟩ = x at hx ⊢
  generalize exE s 0 ⟨#[60]⟩ = y
  split
  · split
    · rename_i e
      exact docF_fine hs _ _ _ _ (startM_ok hx e).2.1 (startM_fine hx hs Fine.nil)
    · exact Fine.nil
  · exact Fine.nil

set_option maxHeartbeats 3200000 in
theorem document_is {w0 : World} {pb : Nat} {s : ByteArray} {w : World} (hB : PBase w0 pb) (h : PS w0 w pb s 0 [] []) (hs : s.size ≤ 4000) :
    Calls Tryd.prog 8 #[.pointer (some ⟨pb, 0, none⟩)] w (PPost w0 pb s (documentM s)) := by
  have hx := (exTo_le (s := s) (t := ⟨#[60]⟩) (Nat.zero_le _)).2
  have CX : Hid (Calls Tryd.prog 15 #[.pointer (some ⟨pb, 0, none⟩), .string ⟨#[60]⟩] w fun e w' => e = .returned (.int .i64 (exE s 0 ⟨#[60]⟩)) ∧ PS w0 w' pb s (exTo s 0 ⟨#[60]⟩) [] []) := expect_ps ⟨#[60]⟩ h (Nat.zero_le _) hs (by show (1 : Nat) ≤ 100; decide)
  obtain ⟨R, hR⟩ : ∃ R, R = documentM s := ⟨_, rfl⟩
  have HR : Hid (R = documentM s) := hR
  rw [← hR]
  clear hR h
  unfold documentM at HR
  generalize exE s 0 ⟨#[60]⟩ = xE at CX HR
  generalize exTo s 0 ⟨#[60]⟩ = x at CX HR hx
  have CS : Hid (∀ W, PS w0 W pb s x [] [] → Calls Tryd.prog 16 #[.pointer (some ⟨pb, 0, none⟩)] W (PPost w0 pb s (startM s x [] []))) := fun W hW => start_is hB hW hx hs (by decide) (by decide)
  have HOK : Hid ((startM s x [] []).1 = 0 → Okay s x [] [] (startM s x [] [])) := fun h => by
    have := startM_ok hx h
    exact ⟨this.1, this.2.1, this.2.2.1, this.2.2.2⟩
  generalize startM s x [] [] = A at CS HR HOK
  obtain ⟨aE, aP, aL, aO⟩ := A
  by_cases e0 : xE = 0
  · subst e0
    by_cases e1 : aE = 0
    · subst e1
      have HR2 : Hid (R = docF s (s.size + 1) aP aL aO) := by have h := HR.out; rw [if_pos rfl, if_pos rfl] at h; exact h
      obtain ⟨o1, o2, o3, o4⟩ := HOK.out rfl
      simp only [List.length_nil] at o1 o2 o3 o4
      have HL0 : Hid (aL.length ≤ aP ∧ aO.length ≤ aP) := ⟨by omega, by omega⟩
      clear HR HOK o3 o4
      go_enter Tryd.func8, Tryd.ntmps8
      go_wp2_with (first
        | (go_at_call 15; refine CX.out.mono ?_; rintro e w1 ⟨rfl, hp1⟩)
        | (go_at_call 16; refine (CS.out _ hp1).mono ?_; rintro e w2 ⟨rfl, _, hp2⟩; have HP2 := hp2 rfl; clear hp2))
      go_loopg [] (s.size + 1 - aP) (fun g wr => ∃ (q k : Nat) (L' : List Ev) (O' : List ByteArray), q ≤ s.size ∧ g = s.size + 1 - q ∧ s.size + 1 - q ≤ k ∧ L'.length ≤ q ∧ O'.length ≤ q ∧ R = docF s k q L' O' ∧ PS w0 wr pb s q L' O')
      case atStart => exact ⟨aP, s.size + 1, aL, aO, o2, rfl, by omega, HL0.out.1, HL0.out.2, HR2.out, HP2⟩
      case round =>
        obtain ⟨q, k, L', O', hq, rfl, hk, hL', hO', hst, hps⟩ := hrel
        obtain ⟨k', rfl⟩ : ∃ k', k = k' + 1 := ⟨k - 1, by omega⟩
        have HPS : Hid (PS w0 wr pb s q L' O') := hps
        have HST : Hid (R = if O'.length = 0 then (if q < s.size then bad 4 else (0, q, L', O')) else (if (contentM s q L' O').1 = 0 then docF s k' (contentM s q L' O').2.1 (contentM s q L' O').2.2.1 (contentM s q L' O').2.2.2 else bad (contentM s q L' O').1)) := by rw [docF] at hst; exact hst
        clear hst HP2 CX CS HR2 HL0
        have HOP : Hid (∃ ev oa oc, PCells wr pb s q ev (.slice oa O'.length oc)) := by
          obtain ⟨⟨ev, op, hc, hE, hRo, hA⟩, lo⟩ := hps
          obtain ⟨oa, oc, rfl⟩ := own_shapeP hRo
          exact ⟨ev, oa, oc, hc⟩
        clear hps
        obtain ⟨ev, oa, oc, hpc⟩ := HOP.out
        have HPC : Hid (PCells wr pb s q ev (.slice oa O'.length oc)) := hpc
        obtain ⟨h0, h1, h2, h3, h4, h5, h6, h7⟩ := hpc
        by_cases e2 : O'.length = 0
        · have hi0 : ¬ (0 : Int) < (O'.length : Int) := by omega
          by_cases e3 : q < s.size
          · have HF : Hid (R = bad 4) := by have h := HST.out; rw [if_pos e2, if_pos e3] at h; exact h
            have hqi : (q : Int) < (s.size : Int) := by omega
            clear HST e2 HOP
            go_upto_region 11 with fail
            go_quiet (fail)
            go_wp2
            all_goals (exact bodyPost_ret (v := .int .i64 4) (by simp [results, Tryd.results8, go_sem]) rfl (by rw [HF.out]; exact PPost.bad (by decide) (below_drawnP HPS.out.lo _)))
          · have HF : Hid (R = (0, q, L', O')) := by have h := HST.out; rw [if_pos e2, if_neg e3] at h; exact h
            have hqi : ¬ (q : Int) < (s.size : Int) := by omega
            clear HST e2 HOP
            go_upto_region 11 with fail
            go_quiet (fail)
            go_wp2
            all_goals (exact bodyPost_ret (v := .int .i64 0) (by simp [results, Tryd.results8, go_sem]) rfl (by
              rw [HF.out]
              obtain ⟨ev', op', hc', hk'⟩ := HPS.out.turn
              exact PPost.good (hk' _ _ (hc'.drewN _) ((GrowP.refl _ _).drewN _))))
        · have hi0 : (0 : Int) < (O'.length : Int) := by omega
          have CC : Hid (Calls Tryd.prog 17 #[.pointer (some ⟨pb, 0, none⟩)] wr (PPost w0 pb s (contentM s q L' O'))) := content_is hB HPS.out hq hs (by omega) (by omega) (by intro e; rw [e] at e2; exact e2 rfl)
          have HCO : Hid ((contentM s q L' O').1 = 0 → Okay s q L' O' (contentM s q L' O')) := fun h => contentM_ok hq h
          have HF : Hid (R = if (contentM s q L' O').1 = 0 then docF s k' (contentM s q L' O').2.1 (contentM s q L' O').2.2.1 (contentM s q L' O').2.2.2 else bad (contentM s q L' O').1) := by have h := HST.out; rw [if_neg e2] at h; exact h
          clear HST e2 HOP
          generalize contentM s q L' O' = B at CC HCO HF
          obtain ⟨bE, bP, bL, bO⟩ := B
          by_cases e4 : bE = 0
          · subst e4
            have HF2 : Hid (R = docF s k' bP bL bO) := by have h := HF.out; rw [if_pos rfl] at h; exact h
            obtain ⟨u1, u2, u3, u4⟩ := HCO.out rfl
            simp only at u1 u2 u3 u4
            have HLL : Hid (bL.length ≤ bP ∧ bO.length ≤ bP) := ⟨by omega, by omega⟩
            clear HF HCO u3 u4
            go_wp2_with (first
              | (go_at_call 17; refine CC.out.mono ?_; rintro e w3 ⟨rfl, _, hp3⟩; have HP3 := hp3 rfl; clear hp3))
            go_roundg (s.size + 1 - bP)
            case rel => exact ⟨bP, k', bL, bO, u2, rfl, by omega, HLL.out.1, HLL.out.2, HF2.out, HP3⟩
            case measure => omega
          · have HF2 : Hid (R = bad bE) := by have h := HF.out; rw [if_neg e4] at h; exact h
            have HN : Hid (¬ bE = 0) := e4
            have t0 : (bE != 0) = true := by rw [bne_iff_ne]; exact e4
            clear e4 HF HCO
            go_wp2_with (first
              | (go_at_call 17; refine CC.out.mono ?_; rintro e w3 ⟨rfl, lo3, _⟩))
            all_goals (exact bodyPost_ret (v := .int .i64 bE) (by simp [results, Tryd.results8, go_sem]) rfl (by rw [HF2.out]; exact PPost.bad HN.out lo3))
    · have HR2 : Hid (R = bad aE) := by have h := HR.out; rw [if_pos rfl, if_neg e1] at h; exact h
      have HN : Hid (¬ aE = 0) := e1
      have t0 : (aE != 0) = true := by rw [bne_iff_ne]; exact e1
      clear e1 HR HOK
      go_enter Tryd.func8, Tryd.ntmps8
      go_wp2_with (first
        | (go_at_call 15; refine CX.out.mono ?_; rintro e w1 ⟨rfl, hp1⟩)
        | (go_at_call 16; refine (CS.out _ hp1).mono ?_; rintro e w2 ⟨rfl, lo2, _⟩))
      all_goals (exact bodyPost_ret (v := .int .i64 aE) (by simp [results, Tryd.results8, go_sem]) rfl (by rw [HR2.out]; exact PPost.bad HN.out lo2))
  · have HR2 : Hid (R = bad xE) := by have h := HR.out; rw [if_neg e0] at h; exact h
    have HN : Hid (¬ xE = 0) := e0
    have t0 : (xE != 0) = true := by rw [bne_iff_ne]; exact e0
    clear e0 HR HOK
    go_enter Tryd.func8, Tryd.ntmps8
    go_wp2_with (first
      | (go_at_call 15; refine CX.out.mono ?_; rintro e w1 ⟨rfl, hp1⟩))
    all_goals (exact bodyPost_ret (v := .int .i64 xE) (by simp [results, Tryd.results8, go_sem]) rfl (by rw [HR2.out]; exact PPost.bad HN.out hp1.lo))
end Go.Proofs.YtoifdcipialciaaDoor
