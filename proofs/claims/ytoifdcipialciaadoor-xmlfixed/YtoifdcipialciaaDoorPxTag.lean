/-
  THE PARSER ABOVE A BASE (the world in which xml.Parse was called); CONTRACTS of its text, attr, comment, end.
-/
import Derived.Test.YtoifdcipialciaaDoorPxVal
import Derived.Test.YtoifdcipialciaaDoorEvent
set_option linter.unusedVariables false
namespace Go.Proofs.YtoifdcipialciaaDoor
set_option maxRecDepth 100000
open Go.RowKit

/-- the world ahead of all: its size is the parser's block; the tables lie there -/
structure PBase (w0 : World) (pb : Nat) : Prop where
  size : w0.heap.size = pb
  esc : EscTab w0
  env : Env w0
structure PS (w0 w : World) (pb : Nat) (s : ByteArray) (p : Nat) (L : List Ev) (O : List ByteArray) : Prop where
  st : PState w pb s p L O
  lo : Below pb w0 w
theorem PState.lt {w : World} {pb : Nat} {s : ByteArray} {p : Nat} {L : List Ev} {O : List ByteArray} (h : PState w pb s p L O) : pb < w.heap.size := by
  obtain ⟨_, _, h1, _⟩ := h
  exact h1.2.2.2.2.2.2.2
theorem PS.turn {w0 w : World} {pb : Nat} {s : ByteArray} {p : Nat} {L : List Ev} {O : List ByteArray} (h : PS w0 w pb s p L O) :
    ∃ ev op, PCells w pb s p ev op ∧ ∀ q w', PCells w' pb s q ev op → GrowP pb w w' → PS w0 w' pb s q L O := by
  have hlt := h.st.lt
  obtain ⟨⟨ev, op, h1, h2, h3, h4⟩, lo⟩ := h
  refine ⟨ev, op, h1, fun q w' hc hg => ⟨⟨ev, op, hc, own_keepP h2 (fun b k1 k2 _ => hg.2.2.2.2 b k2 (by omega)), own_keepP h3 (fun b k1 k2 _ => hg.2.2.2.2 b k2 (by omega)), h4⟩, lo.trans (hg.low (by omega))⟩⟩
theorem PBase.escOf {w0 w : World} {pb : Nat} (h : PBase w0 pb) (lo : Below pb w0 w) : EscTab w ∧ pb ≠ 0 := by
  have hlt : 0 < pb := by
    obtain ⟨t, fr, e⟩ := h.esc
    have := (Array.getElem?_eq_some_iff.1 e).1
    have := h.size
    omega
  exact ⟨h.esc.below lo hlt, by omega⟩
theorem PBase.maxOf {w0 w : World} {pb : Nat} (h : PBase w0 pb) (lo : Below pb w0 w) : ∃ mx : Int, w.cell? ⟨3, 0, none⟩ = some (.int .i64 mx) := by
  obtain ⟨mx, hm⟩ := h.env.maxLen
  exact ⟨mx, (lo.cell (p := ⟨3, 0, none⟩) (by have := h.env.big; have := h.size; show 3 < pb; omega)).trans hm⟩
theorem PBase.envOf {w0 w : World} {pb : Nat} (h : PBase w0 pb) (lo : Below pb w0 w) : Env w := by
  have e := h.size
  subst e
  exact h.env.below lo

theorem stuck_ps {w0 : World} {pb : Nat} {s : ByteArray} {p : Nat} {L : List Ev} {O : List ByteArray} {w : World} (h : PS w0 w pb s p L O) :
    Calls Tryd.prog 22 #[.pointer (some ⟨pb, 0, none⟩)] w fun e w' => e = .returned (.int .i64 (stE s p)) ∧ PS w0 w' pb s p L O := by
  obtain ⟨ev, op, hc, hk⟩ := h.turn
  exact (stuck_is pb s p ev op w hc).mono fun e w' ⟨h1, h2, h3⟩ => ⟨h1, hk _ _ h2 h3.grow⟩
theorem skip_ps {w0 : World} {pb : Nat} {s : ByteArray} (t : ByteArray) {p : Nat} {L : List Ev} {O : List ByteArray} {w : World} (h : PS w0 w pb s p L O) (hp : p ≤ s.size) (hs : s.size ≤ 4000) (ht : t.size ≤ 100) :
    Calls Tryd.prog 21 #[.pointer (some ⟨pb, 0, none⟩), .string t] w fun e w' => e = .returned (.bool (hitB s p t)) ∧ PS w0 w' pb s (skTo s p t) L O := by
  obtain ⟨ev, op, hc, hk⟩ := h.turn
  exact (skip_is pb s t p ev op w hc hp hs ht).mono fun e w' ⟨h1, h2, h3⟩ => ⟨h1, hk _ _ h2 h3.grow⟩
theorem expect_ps {w0 : World} {pb : Nat} {s : ByteArray} (t : ByteArray) {p : Nat} {L : List Ev} {O : List ByteArray} {w : World} (h : PS w0 w pb s p L O) (hp : p ≤ s.size) (hs : s.size ≤ 4000) (ht : t.size ≤ 100) :
    Calls Tryd.prog 15 #[.pointer (some ⟨pb, 0, none⟩), .string t] w fun e w' => e = .returned (.int .i64 (exE s p t)) ∧ PS w0 w' pb s (exTo s p t) L O := by
  obtain ⟨ev, op, hc, hk⟩ := h.turn
  exact (expect_is pb s t p ev op w hc hp hs ht).mono fun e w' ⟨h1, h2, h3⟩ => ⟨h1, hk _ _ h2 h3.grow⟩
theorem blanks_ps {w0 : World} {pb : Nat} {s : ByteArray} {p : Nat} {L : List Ev} {O : List ByteArray} {w : World} (h : PS w0 w pb s p L O) (hp : p ≤ s.size) (hs : s.size ≤ 4000) :
    Calls Tryd.prog 25 #[.pointer (some ⟨pb, 0, none⟩)] w fun e w' => e = .returned (.bool (decide (p < blTo s p))) ∧ PS w0 w' pb s (blTo s p) L O := by
  obtain ⟨ev, op, hc, hk⟩ := h.turn
  exact (blanks_is pb s p ev op w hc hp hs).mono fun e w' ⟨h1, h2, h3⟩ => ⟨h1, hk _ _ h2 h3.grow⟩
theorem name_ps {w0 : World} {pb : Nat} {s : ByteArray} {p : Nat} {L : List Ev} {O : List ByteArray} {w : World} (h : PS w0 w pb s p L O) (hp : p ≤ s.size) (hs : s.size ≤ 4000) :
    Calls Tryd.prog 23 #[.pointer (some ⟨pb, 0, none⟩)] w fun e w' => e = .returned (.tuple #[.string (nmS s p), .int .i64 (nmE s p)]) ∧ PS w0 w' pb s (nmTo s p) L O := by
  obtain ⟨ev, op, hc, hk⟩ := h.turn
  exact (name_is pb s p ev op w hc hp hs).mono fun e w' ⟨h1, h2, h3⟩ => ⟨h1, hk _ _ h2 h3⟩
theorem value_ps {w0 : World} {pb : Nat} {s : ByteArray} (stop : Int) {p : Nat} {L : List Ev} {O : List ByteArray} {w : World} (hB : PBase w0 pb) (h : PS w0 w pb s p L O) (hp : p ≤ s.size) (hs : s.size ≤ 4000) :
    Calls Tryd.prog 40 #[.pointer (some ⟨pb, 0, none⟩), .int .u8 stop] w fun e w' => e = .returned (.tuple #[.string (vaS s stop p), .int .i64 (vaE s stop p)]) ∧ PS w0 w' pb s (vaTo s stop p) L O := by
  obtain ⟨e1, e2⟩ := hB.escOf h.lo
  obtain ⟨ev, op, hc, hk⟩ := h.turn
  exact (value_is pb s stop p ev op w hc hp hs e1 e2).mono fun e w' ⟨h1, h2, h3⟩ => ⟨h1, hk _ _ h2 h3⟩
theorem add_ps {w0 : World} {pb : Nat} {s : ByteArray} (t : Ev) {p : Nat} {L : List Ev} {O : List ByteArray} {w : World} (h : PS w0 w pb s p L O) (hL : L.length ≤ 100000) :
    Calls Tryd.prog 24 #[.pointer (some ⟨pb, 0, none⟩), .int .i64 t.kind, .string t.name, .string t.value] w fun e w' => e = .returned (.tuple #[]) ∧ PS w0 w' pb s p (L ++ [t]) O :=
  (add_is pb s p L O t w h.st hL).mono fun e w' ⟨h1, h2, h3⟩ => ⟨h1, h2, h.lo.trans h3⟩

/-! how far they go -/
theorem nmF_le (s : ByteArray) (f : Nat) : ∀ k q, q ≤ nmF s f q k ∧ nmF s f q k ≤ q + k
  | 0, q => ⟨Nat.le_refl _, Nat.le_refl _⟩
  | k + 1, q => by
    rw [nmF]
    split
    · have := nmF_le s f k (q + 1); omega
    · omega
theorem nmTo_le {s : ByteArray} {p : Nat} (hp : p ≤ s.size) : p ≤ nmTo s p ∧ nmTo s p ≤ s.size := by
  have := nmF_le s p (s.size - p) p
  unfold nmTo
  omega
theorem nm_lt {s : ByteArray} {p : Nat} (hp : p ≤ s.size) (h : nmE s p = 0) : p < nmTo s p := by
  have h1 := (nmTo_le hp).1
  unfold nmE stE at h
  by_cases e : nmTo s p = p
  · rw [if_pos e] at h
    split at h <;> simp at h
  · omega
theorem blF_le (s : ByteArray) : ∀ k q, q ≤ blF s q k ∧ blF s q k ≤ q + k
  | 0, q => ⟨Nat.le_refl _, Nat.le_refl _⟩
  | k + 1, q => by
    rw [blF]
    split
    · have := blF_le s k (q + 1); omega
    · omega
theorem blTo_le {s : ByteArray} {p : Nat} (hp : p ≤ s.size) : p ≤ blTo s p ∧ blTo s p ≤ s.size := by
  have := blF_le s (s.size - p) p
  unfold blTo
  omega
theorem exF_le (s t : ByteArray) : ∀ k i p, p ≤ s.size → i + k ≤ t.size → p ≤ (exF s t i p k).1 ∧ (exF s t i p k).1 ≤ s.size
  | 0, i, p, hp, _ => ⟨Nat.le_refl _, hp⟩
  | k + 1, i, p, hp, hi => by
    rw [exF]
    by_cases h : hitB s p (one1 t i) = true
    · rw [if_pos h]
      have h1 := hit_le hp h
      rw [one1_size (by omega)] at h1
      have := exF_le s t k (i + 1) (p + 1) h1 (by omega)
      omega
    · rw [if_neg h]; exact ⟨Nat.le_refl _, hp⟩
theorem exTo_le {s t : ByteArray} {p : Nat} (hp : p ≤ s.size) : p ≤ exTo s p t ∧ exTo s p t ≤ s.size := exF_le s t t.size 0 p hp (by omega)
theorem vaF_le (s : ByteArray) (stop : Int) : ∀ k q acc, q ≤ s.size → q ≤ (vaF s stop k q acc).2.1 ∧ (vaF s stop k q acc).2.1 ≤ s.size
  | 0, q, acc, hq => ⟨Nat.le_refl _, hq⟩
  | k + 1, q, acc, hq => by
    rw [vaF]
    by_cases h0 : q < s.size
    · rw [if_pos h0]
      by_cases h1 : byteAt s q = stop
      · rw [if_pos h1]; exact ⟨Nat.le_refl _, hq⟩
      · rw [if_neg h1]
        by_cases h2 : byteAt s q = 60
        · rw [if_pos h2]; exact ⟨Nat.le_refl _, hq⟩
        · rw [if_neg h2]
          by_cases h3 : byteAt s q = 38
          · rw [if_pos h3]
            by_cases h4 : esE s q = 0
            · rw [if_pos h4]
              have h5 := es_le hq h4
              have := vaF_le s stop k (esTo s q) (acc ++ [tab (esK s q)]) h5.2
              omega
            · rw [if_neg h4]; exact ⟨Nat.le_refl _, hq⟩
          · rw [if_neg h3]
            have := vaF_le s stop k (q + 1) (acc ++ [byteU s q]) h0
            omega
    · rw [if_neg h0]; exact ⟨Nat.le_refl _, hq⟩
theorem vaTo_le {s : ByteArray} {stop : Int} {p : Nat} (hp : p ≤ s.size) : p ≤ vaTo s stop p ∧ vaTo s stop p ≤ s.size := vaF_le s stop _ p [] hp
theorem va_lt {s : ByteArray} {stop : Int} {p : Nat} (hp : p ≤ s.size) (hn : ¬ byteAt s p = stop) (h : vaE s stop p = 0) : p < vaTo s stop p := by
  unfold vaTo
  unfold vaE at h
  unfold vaR at h ⊢
  cases e : s.size - p with
  | zero => rw [e] at h; simp [vaF] at h
  | succ k =>
    rw [e, vaF, if_pos (by omega), if_neg hn] at h
    rw [vaF, if_pos (by omega), if_neg hn]
    by_cases h2 : byteAt s p = 60
    · rw [if_pos h2] at h; simp at h
    · rw [if_neg h2] at h ⊢
      by_cases h3 : byteAt s p = 38
      · rw [if_pos h3] at h ⊢
        by_cases h4 : esE s p = 0
        · rw [if_pos h4]
          have h5 := es_le hp h4
          have := vaF_le s stop k (esTo s p) ([] ++ [tab (esK s p)]) h5.2
          omega
        · rw [if_neg h4] at h; exact absurd h h4
      · rw [if_neg h3]
        have := vaF_le s stop k (p + 1) ([] ++ [byteU s p]) (by omega)
        omega

/-- what a method tells: an error; a place, events, open names -/
abbrev PR := Int × Nat × List Ev × List ByteArray
def bad (e : Int) : PR := (e, 0, [], [])
def textM (s : ByteArray) (p : Nat) (L : List Ev) (O : List ByteArray) : PR :=
  if vaE s 60 p = 0 then (0, vaTo s 60 p, L ++ [⟨3, ⟨#[]⟩, vaS s 60 p⟩], O) else bad (vaE s 60 p)
/-- where an attribute's value begins -/
def atP (s : ByteArray) (p : Nat) : Nat := exTo s (nmTo s p) ⟨#[61, 34]⟩
def attrM (s : ByteArray) (p : Nat) (L : List Ev) (O : List ByteArray) : PR :=
  if nmE s p = 0 then
    if exE s (nmTo s p) ⟨#[61, 34]⟩ = 0 then
      if vaE s 34 (atP s p) = 0 then (exE s (vaTo s 34 (atP s p)) ⟨#[34]⟩, exTo s (vaTo s 34 (atP s p)) ⟨#[34]⟩, L ++ [⟨2, nmS s p, vaS s 34 (atP s p)⟩], O)
      else bad (vaE s 34 (atP s p))
    else bad (exE s (nmTo s p) ⟨#[61, 34]⟩)
  else bad (nmE s p)
def PPost (w0 : World) (pb : Nat) (s : ByteArray) (r : PR) (e : Ending) (w' : World) : Prop :=
  e = .returned (.int .i64 r.1) ∧ Below pb w0 w' ∧ (r.1 = 0 → PS w0 w' pb s r.2.1 r.2.2.1 r.2.2.2)
theorem PPost.good {w0 : World} {pb : Nat} {s : ByteArray} {x : Int} {q : Nat} {L : List Ev} {O : List ByteArray} {w' : World} (h : PS w0 w' pb s q L O) : PPost w0 pb s (x, q, L, O) (.returned (.int .i64 x)) w' := ⟨rfl, h.lo, fun _ => h⟩
theorem PPost.bad {w0 : World} {pb : Nat} {s : ByteArray} {x : Int} {w' : World} (hx : ¬ x = 0) (lo : Below pb w0 w') : PPost w0 pb s (bad x) (.returned (.int .i64 x)) w' := ⟨rfl, lo, fun h => absurd h hx⟩

set_option maxHeartbeats 800000 in
theorem text_is {w0 : World} {pb : Nat} {s : ByteArray} {p : Nat} {L : List Ev} {O : List ByteArray} {w : World} (hB : PBase w0 pb) (h : PS w0 w pb s p L O) (hp : p ≤ s.size) (hs : s.size ≤ 4000) (hL : L.length ≤ 50000) :
    Calls Tryd.prog 27 #[.pointer (some ⟨pb, 0, none⟩)] w (PPost w0 pb s (textM s p L O)) := by
  have CV : Hid (Calls Tryd.prog 40 #[.pointer (some ⟨pb, 0, none⟩), .int .u8 60] w fun e w' => e = .returned (.tuple #[.string (vaS s 60 p), .int .i64 (vaE s 60 p)]) ∧ PS w0 w' pb s (vaTo s 60 p) L O) := value_ps 60 hB h hp hs
  by_cases e0 : vaE s 60 p = 0
  · have HR : Hid (textM s p L O = (0, vaTo s 60 p, L ++ [⟨3, ⟨#[]⟩, vaS s 60 p⟩], O)) := if_pos e0
    rw [e0] at CV
    clear e0 h
    go_enter Tryd.func27, Tryd.ntmps27
    go_wp2_with (first
      | (go_at_call 40; refine CV.out.mono ?_; rintro e w1 ⟨rfl, hp1⟩; have CA : Hid (Calls Tryd.prog 24 #[.pointer (some ⟨pb, 0, none⟩), .int .i64 3, .string ⟨#[]⟩, .string (vaS s 60 p)] w1 fun e w' => e = .returned (.tuple #[]) ∧ PS w0 w' pb s (vaTo s 60 p) (L ++ [⟨3, ⟨#[]⟩, vaS s 60 p⟩]) O) := add_ps ⟨3, ⟨#[]⟩, vaS s 60 p⟩ hp1 (by omega); clear hp1)
      | (go_at_call 24; refine CA.out.mono ?_; rintro e w2 ⟨rfl, hp2⟩))
    all_goals (exact bodyPost_ret (v := .int .i64 0) (by simp [results, Tryd.results27, go_sem]) rfl (by rw [HR.out]; exact ⟨rfl, hp2.lo, fun _ => hp2⟩))
  · have HR : Hid (textM s p L O = bad (vaE s 60 p)) := if_neg e0
    have HN : Hid (¬ vaE s 60 p = 0) := e0
    have t0 : (vaE s 60 p != 0) = true := by rw [bne_iff_ne]; exact e0
    clear e0 h
    go_enter Tryd.func27, Tryd.ntmps27
    go_wp2_with (first
      | (go_at_call 40; refine CV.out.mono ?_; rintro e w1 ⟨rfl, hp1⟩))
    all_goals (exact bodyPost_ret (v := .int .i64 (vaE s 60 p)) (by simp [results, Tryd.results27, go_sem]) rfl (by rw [HR.out]; exact PPost.bad HN.out hp1.lo))

def AttrPost (nE xE vE qE : Int) (P1 P2 P3 P5 : World → Prop) (e : Ending) (w' : World) : Prop :=
  ∃ x, e = .returned (.int .i64 x) ∧ ((¬ nE = 0 ∧ x = nE ∧ P1 w') ∨ (nE = 0 ∧ ¬ xE = 0 ∧ x = xE ∧ P2 w') ∨ (nE = 0 ∧ xE = 0 ∧ ¬ vE = 0 ∧ x = vE ∧ P3 w') ∨ (nE = 0 ∧ xE = 0 ∧ vE = 0 ∧ x = qE ∧ P5 w'))
set_option maxHeartbeats 1600000 in
theorem attr_walk (pb : Nat) (nS vS : ByteArray) (nE xE vE qE : Int) (P0 P1 P2 P3 P4 P5 : World → Prop) (w : World) (h0 : P0 w)
    (cn : ∀ W, P0 W → Calls Tryd.prog 23 #[.pointer (some ⟨pb, 0, none⟩)] W fun e w' => e = .returned (.tuple #[.string nS, .int .i64 nE]) ∧ P1 w')
    (cx : ∀ W, P1 W → Calls Tryd.prog 15 #[.pointer (some ⟨pb, 0, none⟩), .string ⟨#[61, 34]⟩] W fun e w' => e = .returned (.int .i64 xE) ∧ P2 w')
    (cv : ∀ W, P2 W → Calls Tryd.prog 40 #[.pointer (some ⟨pb, 0, none⟩), .int .u8 34] W fun e w' => e = .returned (.tuple #[.string vS, .int .i64 vE]) ∧ P3 w')
    (ca : ∀ W, P3 W → Calls Tryd.prog 24 #[.pointer (some ⟨pb, 0, none⟩), .int .i64 2, .string nS, .string vS] W fun e w' => e = .returned (.tuple #[]) ∧ P4 w')
    (cq : ∀ W, P4 W → Calls Tryd.prog 15 #[.pointer (some ⟨pb, 0, none⟩), .string ⟨#[34]⟩] W fun e w' => e = .returned (.int .i64 qE) ∧ P5 w') :
    Calls Tryd.prog 26 #[.pointer (some ⟨pb, 0, none⟩)] w (AttrPost nE xE vE qE P1 P2 P3 P5) := by
  have CN : Hid (∀ W, P0 W → Calls Tryd.prog 23 #[.pointer (some ⟨pb, 0, none⟩)] W fun e w' => e = .returned (.tuple #[.string nS, .int .i64 nE]) ∧ P1 w') := cn
  have CX : Hid (∀ W, P1 W → Calls Tryd.prog 15 #[.pointer (some ⟨pb, 0, none⟩), .string ⟨#[61, 34]⟩] W fun e w' => e = .returned (.int .i64 xE) ∧ P2 w') := cx
  have CV : Hid (∀ W, P2 W → Calls Tryd.prog 40 #[.pointer (some ⟨pb, 0, none⟩), .int .u8 34] W fun e w' => e = .returned (.tuple #[.string vS, .int .i64 vE]) ∧ P3 w') := cv
  have CA : Hid (∀ W, P3 W → Calls Tryd.prog 24 #[.pointer (some ⟨pb, 0, none⟩), .int .i64 2, .string nS, .string vS] W fun e w' => e = .returned (.tuple #[]) ∧ P4 w') := ca
  have CQ : Hid (∀ W, P4 W → Calls Tryd.prog 15 #[.pointer (some ⟨pb, 0, none⟩), .string ⟨#[34]⟩] W fun e w' => e = .returned (.int .i64 qE) ∧ P5 w') := cq
  clear cn cx cv ca cq
  by_cases e0 : nE = 0
  · subst e0
    by_cases e1 : xE = 0
    · subst e1
      by_cases e2 : vE = 0
      · subst e2
        go_enter Tryd.func26, Tryd.ntmps26
        go_wp2_with (first
          | (go_at_call 23; refine (CN.out _ h0).mono ?_; rintro e w1 ⟨rfl, h1⟩)
          | (go_at_call_has 15 (Value.string ⟨#[61, 34]⟩); refine (CX.out _ h1).mono ?_; rintro e w2 ⟨rfl, h2⟩)
          | (go_at_call 40; refine (CV.out _ h2).mono ?_; rintro e w3 ⟨rfl, h3⟩)
          | (go_at_call 24; refine (CA.out _ h3).mono ?_; rintro e w4 ⟨rfl, h4⟩)
          | (go_at_call_has 15 (Value.string ⟨#[34]⟩); refine (CQ.out _ h4).mono ?_; rintro e w5 ⟨rfl, h5⟩))
        all_goals (exact bodyPost_ret (v := .int .i64 qE) (by simp [results, Tryd.results26, go_sem]) rfl ⟨qE, rfl, .inr (.inr (.inr ⟨rfl, rfl, rfl, rfl, h5⟩))⟩)
      · have HN : Hid (¬ vE = 0) := e2
        have t0 : (vE != 0) = true := by rw [bne_iff_ne]; exact HN.out
        go_enter Tryd.func26, Tryd.ntmps26
        go_wp2_with (first
          | (go_at_call 23; refine (CN.out _ h0).mono ?_; rintro e w1 ⟨rfl, h1⟩)
          | (go_at_call_has 15 (Value.string ⟨#[61, 34]⟩); refine (CX.out _ h1).mono ?_; rintro e w2 ⟨rfl, h2⟩)
          | (go_at_call 40; refine (CV.out _ h2).mono ?_; rintro e w3 ⟨rfl, h3⟩))
        all_goals (exact bodyPost_ret (v := .int .i64 vE) (by simp [results, Tryd.results26, go_sem]) rfl ⟨vE, rfl, .inr (.inr (.inl ⟨rfl, rfl, HN.out, rfl, h3⟩))⟩)
    · have HN : Hid (¬ xE = 0) := e1
      have t0 : (xE != 0) = true := by rw [bne_iff_ne]; exact HN.out
      go_enter Tryd.func26, Tryd.ntmps26
      go_wp2_with (first
        | (go_at_call 23; refine (CN.out _ h0).mono ?_; rintro e w1 ⟨rfl, h1⟩)
        | (go_at_call_has 15 (Value.string ⟨#[61, 34]⟩); refine (CX.out _ h1).mono ?_; rintro e w2 ⟨rfl, h2⟩))
      all_goals (exact bodyPost_ret (v := .int .i64 xE) (by simp [results, Tryd.results26, go_sem]) rfl ⟨xE, rfl, .inr (.inl ⟨rfl, HN.out, rfl, h2⟩)⟩)
  · have HN : Hid (¬ nE = 0) := e0
    have t0 : (nE != 0) = true := by rw [bne_iff_ne]; exact HN.out
    go_enter Tryd.func26, Tryd.ntmps26
    go_wp2_with (first
      | (go_at_call 23; refine (CN.out _ h0).mono ?_; rintro e w1 ⟨rfl, h1⟩))
    all_goals (exact bodyPost_ret (v := .int .i64 nE) (by simp [results, Tryd.results26, go_sem]) rfl ⟨nE, rfl, .inl ⟨HN.out, rfl, h1⟩⟩)
set_option maxHeartbeats 1600000 in
theorem attr_is {w0 : World} {pb : Nat} {s : ByteArray} {p : Nat} {L : List Ev} {O : List ByteArray} {w : World} (hB : PBase w0 pb) (h : PS w0 w pb s p L O) (hp : p ≤ s.size) (hs : s.size ≤ 4000) (hL : L.length ≤ 50000) :
    Calls Tryd.prog 26 #[.pointer (some ⟨pb, 0, none⟩)] w (PPost w0 pb s (attrM s p L O)) := by
  have hp1 := (nmTo_le hp).2
  have hp2 : atP s p ≤ s.size := (exTo_le hp1).2
  have hp3 : vaTo s 34 (atP s p) ≤ s.size := (vaTo_le hp2).2
  have c2 : ∀ W, PS w0 W pb s (nmTo s p) L O → Calls Tryd.prog 15 #[.pointer (some ⟨pb, 0, none⟩), .string ⟨#[61, 34]⟩] W fun e w' => e = .returned (.int .i64 (exE s (nmTo s p) ⟨#[61, 34]⟩)) ∧ PS w0 w' pb s (atP s p) L O := fun W hW => expect_ps ⟨#[61, 34]⟩ hW hp1 hs (by show (2 : Nat) ≤ 100; decide)
  have c5 : ∀ W, PS w0 W pb s (vaTo s 34 (atP s p)) (L ++ [⟨2, nmS s p, vaS s 34 (atP s p)⟩]) O → Calls Tryd.prog 15 #[.pointer (some ⟨pb, 0, none⟩), .string ⟨#[34]⟩] W fun e w' => e = .returned (.int .i64 (exE s (vaTo s 34 (atP s p)) ⟨#[34]⟩)) ∧ PS w0 w' pb s (exTo s (vaTo s 34 (atP s p)) ⟨#[34]⟩) (L ++ [⟨2, nmS s p, vaS s 34 (atP s p)⟩]) O := fun W hW => expect_ps ⟨#[34]⟩ hW hp3 hs (by show (1 : Nat) ≤ 100; decide)
  unfold attrM
  generalize hq1 : exE s (nmTo s p) ⟨#[61, 34]⟩ = x1 at c2 ⊢
  generalize hq2 : exE s (vaTo s 34 (atP s p)) ⟨#[34]⟩ = x2 at c5 ⊢
  generalize hq3 : exTo s (vaTo s 34 (atP s p)) ⟨#[34]⟩ = x3 at c5 ⊢
  refine Calls.mono (attr_walk pb _ _ _ _ _ _ _ _ _ _ _ _ w h (fun W hW => name_ps hW hp hs) c2 (fun W hW => value_ps 34 hB hW hp2 hs) (fun W hW => add_ps ⟨2, nmS s p, vaS s 34 (atP s p)⟩ hW (by omega)) c5) ?_
  rintro e w' ⟨x, rfl, hx⟩
  rcases hx with ⟨n0, rfl, hq⟩ | ⟨e0, n1, rfl, hq⟩ | ⟨e0, e1, n2, rfl, hq⟩ | ⟨e0, e1, e2, rfl, hq⟩
  · rw [if_neg n0]; exact PPost.bad n0 hq.lo
  · rw [if_pos e0, if_neg n1]; exact PPost.bad n1 hq.lo
  · rw [if_pos e0, if_pos e1, if_neg n2]; exact PPost.bad n2 hq.lo
  · rw [if_pos e0, if_pos e1, if_pos e2]; exact PPost.good hq
end Go.Proofs.YtoifdcipialciaaDoor
