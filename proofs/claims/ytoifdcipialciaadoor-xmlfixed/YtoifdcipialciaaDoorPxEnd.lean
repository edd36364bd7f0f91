/-
  CONTRACTS of the parser's comment and end.
-/
import Derived.Test.YtoifdcipialciaaDoorPxTag
set_option linter.unusedVariables false
namespace Go.Proofs.YtoifdcipialciaaDoor
set_option maxRecDepth 100000
open Go.RowKit

/-- a comment from a place on: what is ahead of the first of its ends -/
def coC (s : ByteArray) (q : Nat) : List UInt8 × List UInt8 × Bool := Lib.cut (s.extract q s.size).data.toList [45, 45, 62]
def commM (xE : Int) (f : Bool) (q : Nat) (v : ByteArray) (L : List Ev) (O : List ByteArray) : PR :=
  if xE = 0 then (if f = true then (0, q + (v.size + 3), L ++ [⟨4, ⟨#[]⟩, v⟩], O) else bad 5) else bad xE
set_option maxHeartbeats 1600000 in
theorem comment_walk {w0 : World} {pb : Nat} {s : ByteArray} {p : Nat} {L : List Ev} {O : List ByteArray} {w : World} (q : Nat) (xE : Int) (v u : ByteArray) (f : Bool) (h : PS w0 w pb s p L O)
    (cx : Calls Tryd.prog 15 #[.pointer (some ⟨pb, 0, none⟩), .string ⟨#[45, 45]⟩] w fun e w' => e = .returned (.int .i64 xE) ∧ PS w0 w' pb s q L O)
    (cc : ∀ W, PS w0 W pb s q L O → Calls Tryd.prog 41 #[.string (s.extract q s.size), .string ⟨#[45, 45, 62]⟩] W fun e w' => e = .returned (.tuple #[.string v, .string u, .bool f]) ∧ ∃ n, w' = W.drewN n)
    (hq : q ≤ s.size) (hs : s.size ≤ 4000) (hv : v.size ≤ 4000) (hL : L.length ≤ 50000) :
    Calls Tryd.prog 29 #[.pointer (some ⟨pb, 0, none⟩)] w (PPost w0 pb s (commM xE f q v L O)) := by
  have CX : Hid (Calls Tryd.prog 15 #[.pointer (some ⟨pb, 0, none⟩), .string ⟨#[45, 45]⟩] w fun e w' => e = .returned (.int .i64 xE) ∧ PS w0 w' pb s q L O) := cx
  have CC : Hid (∀ W, PS w0 W pb s q L O → Calls Tryd.prog 41 #[.string (s.extract q s.size), .string ⟨#[45, 45, 62]⟩] W fun e w' => e = .returned (.tuple #[.string v, .string u, .bool f]) ∧ ∃ n, w' = W.drewN n) := cc
  clear cx cc h
  by_cases e0 : xE = 0
  · subst e0
    have hqi : (q : Int) ≤ (s.size : Int) := by omega
    have hw1 : IntKind.i64.wrap ((v.size : Int) + 3) = (v.size : Int) + 3 := IntWalk.i64_in _ (by omega)
    have hw2 : IntKind.i64.wrap ((q : Int) + ((v.size : Int) + 3)) = (q : Int) + ((v.size : Int) + 3) := IntWalk.i64_in _ (by omega)
    cases f
    · have HR : Hid (commM 0 false q v L O = bad 5) := rfl
      go_enter Tryd.func29, Tryd.ntmps29
      go_upto_region 4 with (first
        | (go_at_call 15; refine CX.out.mono ?_; rintro e w1 ⟨rfl, hp1⟩; obtain ⟨ev, op, hc, hk⟩ := hp1.turn; have HC1 : Hid (PCells w1 pb s q ev op) := hc; have HK : Hid (∀ q w', PCells w' pb s q ev op → GrowP pb w1 w' → PS w0 w' pb s q L O) := hk; have CU : Hid (∀ z, Calls Tryd.prog 41 #[.string (s.extract q s.size), .string ⟨#[45, 45, 62]⟩] (w1.drewN z) fun e w' => e = .returned (.tuple #[.string v, .string u, .bool false]) ∧ ∃ n, w' = (w1.drewN z).drewN n) := (fun z => CC.out _ (hk _ _ (hc.drewN z) ((GrowP.refl _ _).drewN z))); obtain ⟨h0, h1, h2, h3, h4, h5, h6, h7⟩ := hc; clear hk hp1))
      go_quiet ((go_at_call 41; refine Calls.quiet_of (CU.out _)))
      go_wp2
      all_goals (exact bodyPost_ret (v := .int .i64 5) (by simp [results, Tryd.results29, go_sem]) rfl (by rw [HR.out]; exact PPost.bad (by decide) (HK.out _ _ (HC1.out.drewN _) ((GrowP.refl _ _).drewN _)).lo))
    · have HR : Hid (commM 0 true q v L O = (0, q + (v.size + 3), L ++ [⟨4, ⟨#[]⟩, v⟩], O)) := rfl
      go_enter Tryd.func29, Tryd.ntmps29
      go_upto_region 4 with (first
        | (go_at_call 15; refine CX.out.mono ?_; rintro e w1 ⟨rfl, hp1⟩; obtain ⟨ev, op, hc, hk⟩ := hp1.turn; have HC1 : Hid (PCells w1 pb s q ev op) := hc; have HK : Hid (∀ q w', PCells w' pb s q ev op → GrowP pb w1 w' → PS w0 w' pb s q L O) := hk; have CU : Hid (∀ z, Calls Tryd.prog 41 #[.string (s.extract q s.size), .string ⟨#[45, 45, 62]⟩] (w1.drewN z) fun e w' => e = .returned (.tuple #[.string v, .string u, .bool true]) ∧ ∃ n, w' = (w1.drewN z).drewN n) := (fun z => CC.out _ (hk _ _ (hc.drewN z) ((GrowP.refl _ _).drewN z))); obtain ⟨h0, h1, h2, h3, h4, h5, h6, h7⟩ := hc; clear hk hp1))
      go_quiet ((go_at_call 41; refine Calls.quiet_of (CU.out _)))
      obtain ⟨W5, hW5⟩ : ∃ W, W = w1.drewN nq := ⟨_, rfl⟩
      rw [← hW5]
      have HC5 : Hid (PCells W5 pb s q ev op) := by rw [hW5]; exact HC1.out.drewN nq
      have HB5 : Hid (GrowP pb w1 W5) := by rw [hW5]; exact (GrowP.refl _ _).drewN nq
      clear hW5 h0 h1 h2 h3 h4 h5 h6 h7
      obtain ⟨h0, h1, h2, h3, h4, h5, h6, h7⟩ := HC5.out
      have HC6 : Hid (PCells (W5.setCell ⟨pb, 1, none⟩ (.int .i64 ((q : Int) + ((v.size : Int) + 3)))) pb s (q + (v.size + 3)) ev op) := by
        have h := HC5.out.at (q + (v.size + 3))
        rw [show ((q + (v.size + 3) : Nat) : Int) = (q : Int) + ((v.size : Int) + 3) by simp] at h
        exact h
      have HS6 : Hid (PS w0 (W5.setCell ⟨pb, 1, none⟩ (.int .i64 ((q : Int) + ((v.size : Int) + 3)))) pb s (q + (v.size + 3)) L O) := HK.out _ _ HC6.out (HB5.out.set _ _)
      have CCL : Hid (Calls Tryd.prog 39 #[.string v] (W5.setCell ⟨pb, 1, none⟩ (.int .i64 ((q : Int) + ((v.size : Int) + 3)))) fun e w' => e = .returned (.string v) ∧ PS w0 w' pb s (q + (v.size + 3)) L O) := (clone_is v _ (by omega)).mono fun e w' ⟨k1, k2⟩ => ⟨k1, HK.out _ _ (HC6.out.below k2) ((HB5.out.set _ _).below k2)⟩
      go_wp2_with (first
        | (go_at_call 39; refine CCL.out.mono ?_; rintro e w7 ⟨rfl, hp7⟩)
        | (go_at_call 24; refine (add_ps ⟨4, ⟨#[]⟩, v⟩ hp7 (by omega)).mono ?_; rintro e w8 ⟨rfl, hp8⟩))
      all_goals (exact bodyPost_ret (v := .int .i64 0) (by simp [results, Tryd.results29, go_sem]) rfl (by rw [HR.out]; exact PPost.good hp8))
  · have HR : Hid (commM xE f q v L O = bad xE) := if_neg e0
    have HN : Hid (¬ xE = 0) := e0
    have t0 : (xE != 0) = true := by rw [bne_iff_ne]; exact e0
    clear e0
    go_enter Tryd.func29, Tryd.ntmps29
    go_wp2_with (first
      | (go_at_call 15; refine CX.out.mono ?_; rintro e w1 ⟨rfl, hp1⟩))
    all_goals (exact bodyPost_ret (v := .int .i64 xE) (by simp [results, Tryd.results29, go_sem]) rfl (by rw [HR.out]; exact PPost.bad HN.out hp1.lo))
def commentM (s : ByteArray) (p : Nat) (L : List Ev) (O : List ByteArray) : PR :=
  commM (exE s p ⟨#[45, 45]⟩) (coC s (exTo s p ⟨#[45, 45]⟩)).2.2 (exTo s p ⟨#[45, 45]⟩) ⟨(coC s (exTo s p ⟨#[45, 45]⟩)).1.toArray⟩ L O
theorem co_len (s : ByteArray) (q : Nat) (hs : s.size ≤ 4000) : (coC s q).1.length ≤ 4000 := by
  have hl : (s.extract q s.size).data.toList.length ≤ 4000 := by
    show (s.extract q s.size).size ≤ 4000
    rw [ByteArray.size_extract]
    omega
  unfold coC Lib.cut
  split
  · show (List.take _ _).length ≤ 4000
    rw [List.length_take]
    omega
  · exact hl
theorem comment_is {w0 : World} {pb : Nat} {s : ByteArray} {p : Nat} {L : List Ev} {O : List ByteArray} {w : World} (hB : PBase w0 pb) (h : PS w0 w pb s p L O) (hp : p ≤ s.size) (hs : s.size ≤ 4000) (hL : L.length ≤ 50000) :
    Calls Tryd.prog 29 #[.pointer (some ⟨pb, 0, none⟩)] w (PPost w0 pb s (commentM s p L O)) := by
  have hq := (exTo_le (s := s) (t := ⟨#[45, 45]⟩) hp).2
  have cx := expect_ps (s := s) (⟨#[45, 45]⟩) h hp hs (by show (2 : Nat) ≤ 100; decide)
  unfold commentM
  generalize exE s p ⟨#[45, 45]⟩ = xE at cx ⊢
  generalize exTo s p ⟨#[45, 45]⟩ = q at cx hq ⊢
  refine comment_walk q xE _ ⟨(coC s q).2.1.toArray⟩ (coC s q).2.2 h cx ?_ hq hs (co_len s q hs) hL
  intro W hW
  obtain ⟨mx, hm⟩ := hB.maxOf hW.lo
  exact Tryd.strings_Cut (s.extract q s.size) ⟨#[45, 45, 62]⟩ mx W (by rw [ByteArray.size_extract]; omega) hm

/-- is the last of the open names this one? -/
def lastB (O : List ByteArray) (n : ByteArray) : Bool := match O.getLast? with | some l => n.toList == l.toList | none => false
def endM (nE xE : Int) (nS : ByteArray) (q : Nat) (L : List Ev) (O : List ByteArray) : PR :=
  if nE = 0 then (if xE = 0 then (if lastB O nS = true then (0, q, L ++ [⟨5, ⟨#[]⟩, ⟨#[]⟩⟩], O.dropLast) else bad 4) else bad xE) else bad nE
theorem own_last {w : World} {base : Nat} {op : Value} {O : List ByteArray} {l : ByteArray} (h : w.ownsRow base 9 1 op (O ++ [l]).length (strsCp (O ++ [l]))) :
    ∃ g cap, op = .slice (some ⟨g, 0, none⟩) (O.length + 1) cap ∧ O.length + 1 ≤ cap ∧ cap ≤ maxLen ∧ w.cell? ⟨g, O.length, none⟩ = some (.string l) ∧ g < w.heap.size ∧ base ≤ g ∧ w.ownsRow base 9 1 (.slice (some ⟨g, 0, none⟩) O.length cap) O.length (strsCp O) := by
  have hc := @World.ownsRow.cells _ _ _ _ _ _ _ h
  have hlt := h.lt
  obtain ⟨hl, ⟨rfl, h0⟩ | ⟨g, cap, cur, rfl, hb, hg, hn, hm, hz, ht⟩⟩ := h
  · simp at h0
  · have e : (O ++ [l]).length = O.length + 1 := by simp
    refine ⟨g, cap, by rw [e], by omega, hm, ?_, (hlt g rfl).2, hb, ⟨by simp [strsCp], .inr ⟨g, cap, cur, rfl, hb, hg, by omega, hm, hz, ?_⟩⟩⟩
    · have := hc (g := g) rfl O.length (.string l) (by simp [strsCp])
      rwa [show ((⟨g, 0, none⟩ : Addr).add O.length) = ⟨g, O.length, none⟩ by (cases O <;> simp [Addr.add])] at this
    · rw [e] at ht
      have h2 : (cur.toList.take ((O.length + 1) * 1)).take (O.length * 1) = cur.toList.take (O.length * 1) := by rw [List.take_take]; congr 1; omega
      rw [← h2, ht]
      simp [strsCp]
set_option maxHeartbeats 1600000 in
theorem end_walk {w0 : World} {pb : Nat} {s : ByteArray} {p : Nat} {L : List Ev} {O : List ByteArray} {l : ByteArray} {w : World} (p1 p2 q : Nat) (nE xE : Int) (bl : Bool) (nS : ByteArray) (h : PS w0 w pb s p L (O ++ [l]))
    (cn : Calls Tryd.prog 23 #[.pointer (some ⟨pb, 0, none⟩)] w fun e w' => e = .returned (.tuple #[.string nS, .int .i64 nE]) ∧ PS w0 w' pb s p1 L (O ++ [l]))
    (cb : ∀ W, PS w0 W pb s p1 L (O ++ [l]) → Calls Tryd.prog 25 #[.pointer (some ⟨pb, 0, none⟩)] W fun e w' => e = .returned (.bool bl) ∧ PS w0 w' pb s p2 L (O ++ [l]))
    (cx : ∀ W, PS w0 W pb s p2 L (O ++ [l]) → Calls Tryd.prog 15 #[.pointer (some ⟨pb, 0, none⟩), .string ⟨#[62]⟩] W fun e w' => e = .returned (.int .i64 xE) ∧ PS w0 w' pb s q L (O ++ [l]))
    (hL : L.length ≤ 50000) (hO : O.length ≤ 50000) :
    Calls Tryd.prog 28 #[.pointer (some ⟨pb, 0, none⟩)] w (PPost w0 pb s (endM nE xE nS q L (O ++ [l]))) := by
  have CN : Hid (Calls Tryd.prog 23 #[.pointer (some ⟨pb, 0, none⟩)] w fun e w' => e = .returned (.tuple #[.string nS, .int .i64 nE]) ∧ PS w0 w' pb s p1 L (O ++ [l])) := cn
  have CB : Hid (∀ W, PS w0 W pb s p1 L (O ++ [l]) → Calls Tryd.prog 25 #[.pointer (some ⟨pb, 0, none⟩)] W fun e w' => e = .returned (.bool bl) ∧ PS w0 w' pb s p2 L (O ++ [l])) := cb
  have CX : Hid (∀ W, PS w0 W pb s p2 L (O ++ [l]) → Calls Tryd.prog 15 #[.pointer (some ⟨pb, 0, none⟩), .string ⟨#[62]⟩] W fun e w' => e = .returned (.int .i64 xE) ∧ PS w0 w' pb s q L (O ++ [l])) := cx
  clear cn cb cx h
  have hlast : lastB (O ++ [l]) nS = (nS.toList == l.toList) := by unfold lastB; simp
  by_cases e0 : nE = 0
  · subst e0
    by_cases e1 : xE = 0
    · subst e1
      have hOi : (O.length : Int) < (O.length : Int) + 1 := by omega
      have hw1 : IntKind.i64.wrap ((O.length : Int) + 1 - 1) = (O.length : Int) := by rw [show (O.length : Int) + 1 - 1 = (O.length : Int) by omega]; exact IntWalk.i64_in _ (by omega)
      have HOP : Hid (∀ W, PS w0 W pb s q L (O ++ [l]) → ∃ ev g cap, PCells W pb s q ev (.slice (some ⟨g, 0, none⟩) (O.length + 1) cap) ∧ O.length + 1 ≤ cap ∧ cap ≤ maxLen ∧ W.cell? ⟨g, O.length, none⟩ = some (.string l) ∧ g < W.heap.size ∧ pb < g ∧ PS w0 (W.setCell ⟨pb, 3, none⟩ (.slice (some ⟨g, 0, none⟩) O.length cap)) pb s q L O) := by
        intro W hW
        have hlt := hW.st.lt
        obtain ⟨⟨ev, op, hc, hE, hR, hA⟩, lo⟩ := hW
        obtain ⟨g, cap, rfl, a1, a2, a3, a4, a5, a6⟩ := own_last hR
        refine ⟨ev, g, cap, hc, a1, a2, a3, a4, by omega, ⟨⟨ev, .slice (some ⟨g, 0, none⟩) O.length cap, ?_, ?_, ?_, ?_⟩, ?_⟩⟩
        · obtain ⟨y0, y1, y2, y3, y4, y5, y6, y7⟩ := hc
          exact ⟨by simp [go_sem, y0], by simp [go_sem, y1], by simp [go_sem, y2], by simp [go_sem, y3], by simp [go_sem, y4], by simp [go_sem, y5], by simp [go_sem, y6], by simpa using y7⟩
        · exact own_keepP hE (fun b k1 k2 _ => Below.heap_setCell _ _ _ _ (by simp; omega))
        · exact own_keepP a6 (fun b k1 k2 _ => Below.heap_setCell _ _ _ _ (by simp; omega))
        · exact hA
        · exact lo.trans (((ByP.refl pb W).set 3 _).grow.low (by omega))
      cases hl : (nS.toList == l.toList)
      · have HR : Hid (endM 0 0 nS q L (O ++ [l]) = bad 4) := by
          have h : endM 0 0 nS q L (O ++ [l]) = bad 4 := by unfold endM; rw [if_pos rfl, if_pos rfl, if_neg (by rw [hlast, hl]; decide)]
          exact h
        clear hlast
        go_enter Tryd.func28, Tryd.ntmps28
        go_wp2_with (first
          | (go_at_call 23; refine CN.out.mono ?_; rintro e w1 ⟨rfl, hp1⟩)
          | (go_at_call 25; refine (CB.out _ hp1).mono ?_; rintro e w2 ⟨rfl, hp2⟩)
          | (go_at_call 15; refine (CX.out _ hp2).mono ?_; rintro e w3 ⟨rfl, hp3⟩; obtain ⟨ev, g, cap, hc, a1, a2, a3, a4, a5, a6⟩ := HOP.out _ hp3; obtain ⟨h0, h1, h2, h3, h4, h5, h6, h7⟩ := hc; have HA6 : Hid (PS w0 w3 pb s q L (O ++ [l])) := hp3; clear a6 hp3))
        all_goals (exact bodyPost_ret (v := .int .i64 4) (by simp [results, Tryd.results28, go_sem]) rfl (by rw [HR.out]; exact PPost.bad (by decide) HA6.out.lo))
      · have HR : Hid (endM 0 0 nS q L (O ++ [l]) = (0, q, L ++ [⟨5, ⟨#[]⟩, ⟨#[]⟩⟩], O)) := by
          have h : endM 0 0 nS q L (O ++ [l]) = (0, q, L ++ [⟨5, ⟨#[]⟩, ⟨#[]⟩⟩], O) := by unfold endM; rw [if_pos rfl, if_pos rfl, if_pos (by rw [hlast, hl]), List.dropLast_concat]
          exact h
        clear hlast
        go_enter Tryd.func28, Tryd.ntmps28
        go_wp2_with (first
          | (go_at_call 23; refine CN.out.mono ?_; rintro e w1 ⟨rfl, hp1⟩)
          | (go_at_call 25; refine (CB.out _ hp1).mono ?_; rintro e w2 ⟨rfl, hp2⟩)
          | (go_at_call 15; refine (CX.out _ hp2).mono ?_; rintro e w3 ⟨rfl, hp3⟩; obtain ⟨ev, g, cap, hc, a1, a2, a3, a4, a5, a6⟩ := HOP.out _ hp3; obtain ⟨h0, h1, h2, h3, h4, h5, h6, h7⟩ := hc; have HA6 : Hid (PS w0 (w3.setCell ⟨pb, 3, none⟩ (.slice (some ⟨g, 0, none⟩) O.length cap)) pb s q L O) := a6; clear a6 hp3)
          | (go_at_call 24; refine (add_ps ⟨5, ⟨#[]⟩, ⟨#[]⟩⟩ HA6.out (by omega)).mono ?_; rintro e w8 ⟨rfl, hp8⟩))
        all_goals (exact bodyPost_ret (v := .int .i64 0) (by simp [results, Tryd.results28, go_sem]) rfl (by rw [HR.out]; exact PPost.good hp8))
    · have HR : Hid (endM 0 xE nS q L (O ++ [l]) = bad xE) := by
        have h : endM 0 xE nS q L (O ++ [l]) = bad xE := by unfold endM; rw [if_pos rfl, if_neg e1]
        exact h
      have HN : Hid (¬ xE = 0) := e1
      have t0 : (xE != 0) = true := by rw [bne_iff_ne]; exact e1
      clear e1 hlast
      go_enter Tryd.func28, Tryd.ntmps28
      go_wp2_with (first
        | (go_at_call 23; refine CN.out.mono ?_; rintro e w1 ⟨rfl, hp1⟩)
        | (go_at_call 25; refine (CB.out _ hp1).mono ?_; rintro e w2 ⟨rfl, hp2⟩)
        | (go_at_call 15; refine (CX.out _ hp2).mono ?_; rintro e w3 ⟨rfl, hp3⟩))
      all_goals (exact bodyPost_ret (v := .int .i64 xE) (by simp [results, Tryd.results28, go_sem]) rfl (by rw [HR.out]; exact PPost.bad HN.out hp3.lo))
  · have HR : Hid (endM nE xE nS q L (O ++ [l]) = bad nE) := if_neg e0
    have HN : Hid (¬ nE = 0) := e0
    have t0 : (nE != 0) = true := by rw [bne_iff_ne]; exact e0
    clear e0 hlast
    go_enter Tryd.func28, Tryd.ntmps28
    go_wp2_with (first
      | (go_at_call 23; refine CN.out.mono ?_; rintro e w1 ⟨rfl, hp1⟩))
    all_goals (exact bodyPost_ret (v := .int .i64 nE) (by simp [results, Tryd.results28, go_sem]) rfl (by rw [HR.out]; exact PPost.bad HN.out hp1.lo))
/-- where an end's tag is shut -/
def enP (s : ByteArray) (p : Nat) : Nat := blTo s (nmTo s p)
def enM (s : ByteArray) (p : Nat) (L : List Ev) (O : List ByteArray) : PR := endM (nmE s p) (exE s (enP s p) ⟨#[62]⟩) (nmS s p) (exTo s (enP s p) ⟨#[62]⟩) L O
theorem end_is {w0 : World} {pb : Nat} {s : ByteArray} {p : Nat} {L : List Ev} {O : List ByteArray} {w : World} (hB : PBase w0 pb) (h : PS w0 w pb s p L O) (hp : p ≤ s.size) (hs : s.size ≤ 4000) (hL : L.length ≤ 50000) (hO : O.length ≤ 50000) (hO0 : O ≠ []) :
    Calls Tryd.prog 28 #[.pointer (some ⟨pb, 0, none⟩)] w (PPost w0 pb s (enM s p L O)) := by
  obtain ⟨O', l, rfl⟩ : ∃ O' l, O = O' ++ [l] := ⟨O.dropLast, O.getLast hO0, (List.dropLast_concat_getLast hO0).symm⟩
  have hp1 := (nmTo_le hp).2
  have hp2 : enP s p ≤ s.size := (blTo_le hp1).2
  have c3 : ∀ W, PS w0 W pb s (enP s p) L (O' ++ [l]) → Calls Tryd.prog 15 #[.pointer (some ⟨pb, 0, none⟩), .string ⟨#[62]⟩] W fun e w' => e = .returned (.int .i64 (exE s (enP s p) ⟨#[62]⟩)) ∧ PS w0 w' pb s (exTo s (enP s p) ⟨#[62]⟩) L (O' ++ [l]) := fun W hW => expect_ps ⟨#[62]⟩ hW hp2 hs (by show (1 : Nat) ≤ 100; decide)
  unfold enM
  generalize exE s (enP s p) ⟨#[62]⟩ = x1 at c3 ⊢
  generalize exTo s (enP s p) ⟨#[62]⟩ = x2 at c3 ⊢
  exact end_walk (nmTo s p) (enP s p) x2 (nmE s p) x1 _ (nmS s p) h (name_ps h hp hs) (fun W hW => blanks_ps hW hp1 hs) c3 hL (by simp at hO; omega)
end Go.Proofs.YtoifdcipialciaaDoor
