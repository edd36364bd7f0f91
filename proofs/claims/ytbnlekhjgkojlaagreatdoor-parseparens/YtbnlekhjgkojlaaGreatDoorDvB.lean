import Derived.Test.YtbnlekhjgkojlaaGreatDoorDvA
set_option linter.unusedVariables false
namespace Go.Proofs.YtbnlekhjgkojlaaGreatDoor
set_option maxRecDepth 100000
open Go.RowKit
abbrev J := Tok × List Tok × Ph
def jt : List J → List Tok
 | [] => []
 | e :: L => e.1 :: (e.2.1 ++ jt L)
theorem jt_app (L M : List J) : jt (L ++ M) = jt L ++ jt M := by
 induction L with
 | nil => rfl
 | cons e L ih => simp [jt, ih]
def j0 : J := (tok0, [], rootP)
def jAt (a : Nat) (L : List J) (k : Nat) : Nat := a + (jt (L.take k)).length
theorem j_cut {L : List J} {k : Nat} (hk : k < L.length) : L = L.take k ++ (L.getD k j0 :: L.drop (k + 1)) := by
 have e : L.getD k j0 = L[k] := by rw [List.getD_eq_getElem?_getD, List.getElem?_eq_getElem hk]; rfl
 rw [e, ← List.drop_eq_getElem_cons hk, List.take_append_drop]
theorem jt_cut {L : List J} {k : Nat} (hk : k < L.length) : jt L = jt (L.take k) ++ ((L.getD k j0).1 :: ((L.getD k j0).2.1 ++ jt (L.drop (k + 1)))) := by
 conv => lhs; rw [j_cut hk]
 rw [jt_app]
 rfl
theorem j_mem {L : List J} {k : Nat} (hk : k < L.length) : L.getD k j0 ∈ L := by
 have e : L.getD k j0 = L[k] := by rw [List.getD_eq_getElem?_getD, List.getElem?_eq_getElem hk]; rfl
 rw [e]
 exact List.getElem_mem hk
theorem jAt_succ {a : Nat} {L : List J} {k : Nat} (hk : k < L.length) : jAt a L (k + 1) = jAt a L k + 1 + (L.getD k j0).2.1.length := by
 have e : L.getD k j0 = L[k] := by rw [List.getD_eq_getElem?_getD, List.getElem?_eq_getElem hk]; rfl
 unfold jAt
 rw [List.take_add_one, List.getElem?_eq_getElem hk, jt_app, List.length_append, e]
 simp only [Option.toList_some, jt, List.length_cons, List.append_nil]
 omega
theorem jAt_zero {a : Nat} {L : List J} : jAt a L 0 = a := by simp [jAt, jt]
theorem jAt_len {a : Nat} {L : List J} : jAt a L L.length = a + (jt L).length := by
 unfold jAt
 rw [List.take_length]
theorem jAt_le {a : Nat} {L : List J} {k : Nat} : jAt a L k ≤ a + (jt L).length := by
 unfold jAt
 have h : jt L = jt (L.take k) ++ jt (L.drop k) := by rw [← jt_app, List.take_append_drop]
 rw [h, List.length_append]
 omega
theorem Sp.jt {T : List Tok} {a : Nat} {L : List J} {R : List Tok} (h : Sp T a (jt L) R) {k : Nat} (hk : k < L.length) : Sp T (jAt a L k) ((L.getD k j0).1 :: (L.getD k j0).2.1) (jt (L.drop (k + 1)) ++ R) := by
 have h1 : Sp T a (Go.Proofs.YtbnlekhjgkojlaaGreatDoor.jt (L.take k) ++ ((L.getD k j0).1 :: ((L.getD k j0).2.1 ++ Go.Proofs.YtbnlekhjgkojlaaGreatDoor.jt (L.drop (k + 1))))) R := by rw [← jt_cut hk]; exact h
 have h2 := h1.tail
 exact (show Sp T (jAt a L k) (((L.getD k j0).1 :: (L.getD k j0).2.1) ++ Go.Proofs.YtbnlekhjgkojlaaGreatDoor.jt (L.drop (k + 1))) R from h2).assoc
theorem Sp.jn {T : List Tok} {a : Nat} {L : List J} {R : List Tok} (h : Sp T a (Go.Proofs.YtbnlekhjgkojlaaGreatDoor.jt L) R) (k : Nat) : tkA T (jAt a L k) = hd (Go.Proofs.YtbnlekhjgkojlaaGreatDoor.jt (L.drop k) ++ R) := by
 have h1 : Sp T a (Go.Proofs.YtbnlekhjgkojlaaGreatDoor.jt (L.take k) ++ Go.Proofs.YtbnlekhjgkojlaaGreatDoor.jt (L.drop k)) R := by rw [← jt_app, List.take_append_drop]; exact h
 exact h1.tail.first
theorem Sp.je {T : List Tok} {a : Nat} {L : List J} {R : List Tok} (h : Sp T a (Go.Proofs.YtbnlekhjgkojlaaGreatDoor.jt L) R) : tkA T (jAt a L L.length) = hd R := by
 rw [h.jn, List.drop_length]
 rfl
theorem jt_fol {P : Tok → Prop} {L : List J} {R : List Tok} (h1 : ∀ e ∈ L, P e.1) (h2 : P (hd R)) (k : Nat) : P (hd (jt (L.drop k) ++ R)) := by
 cases hl : L.drop k with
 | nil => exact h2
 | cons e M => exact h1 e (List.mem_of_mem_drop (show e ∈ L.drop k by rw [hl]; simp))
def opOk (bd : Nat) (u : Tok) : Bool := (u.kind == 1 || u.kind == 5) && (opG u.s == (bd : Int) && (decide (u.s.size ≤ 4000) && folA u))
theorem opOk_next {bd : Nat} {u : Tok} (h : opOk bd u = true) : opNext u (bd : Int) = true ∧ u.s.size ≤ 4000 := by
 unfold opOk at h
 simp only [Bool.and_eq_true, decide_eq_true_eq] at h
 refine ⟨?_, h.2.2.1⟩
 unfold opNext
 have h2 : opG u.s = (bd : Int) := eq_of_beq h.2.1
 rw [h.1, opG_eq, h2]
 simp
theorem opOk_fol {bd : Nat} {u : Tok} (h : opOk bd u = true) : folB (bd + 1) u = true := by
 unfold opOk at h
 simp only [Bool.and_eq_true, decide_eq_true_eq] at h
 have h2 : opG u.s = (bd : Int) := eq_of_beq h.2.1
 unfold folB
 rw [h.2.2.2, h2]
 simp only [Bool.true_and, Bool.not_eq_true', Bool.and_eq_false_iff]
 exact .inr (decide_eq_false (by omega))
structure IsBin (bd : Nat) (X : List Tok) (p : Ph) (d : Nat) : Prop where
 ne : X ≠ []
 head : headK (hd X) = true
 run : Dv 85 [.int .i64 (bd : Int)] (folB bd) X p d
theorem IsBin.more {bd : Nat} {X : List Tok} {p : Ph} {d e : Nat} (h : IsBin bd X p d) (hd : d ≤ e) : IsBin bd X p e := ⟨h.ne, h.head, h.run.more hd⟩
theorem bin_up1 {bd : Nat} {X : List Tok} {p : Ph} {d : Nat} (hbd : bd < 8) (h : IsBin (bd + 1) X p d) : IsBin bd X p d := by
 refine ⟨h.ne, h.head, fun T a o R pb b c hs hf ho => ?_⟩
 have hz := hs.size h.ne
 have l1 : a ≤ 300 := by omega
 have l2 : a + X.length ≤ 300 := by omega
 have n : opNext (seeM T ⟨a + X.length, o, 0⟩ 0) bd = false := by
  rw [see0, Nat.add_zero, hs.next]; exact (folB_A hf).2 bd (Nat.le_refl _)
 have k := h.run T a o R pb b c hs (folB_up hf (by omega)) ho
 exact binary_none (st := ⟨a, o, 0⟩) (s1 := ⟨a + X.length, o, 0⟩) hs.len l1 hbd l2 n k
theorem bin_down {X : List Tok} {p : Ph} {d : Nat} : ∀ (m bd : Nat), bd + m ≤ 8 → IsBin (bd + m) X p d → IsBin bd X p d
 | 0, bd, _, h => h
 | m + 1, bd, hb, h => bin_up1 (by omega) (bin_down m (bd + 1) (by omega) (by rw [show bd + 1 + m = bd + (m + 1) by omega]; exact h))
theorem IsBin.down {be : Nat} {X : List Tok} {p : Ph} {d : Nat} (h : IsBin be X p d) (bd : Nat) (h1 : bd ≤ be := by omega) (h2 : be ≤ 8 := by omega) : IsBin bd X p d :=
 bin_down (be - bd) bd (by omega) (by rw [show bd + (be - bd) = be by omega]; exact h)
def nmJ (L : List J) (k : Nat) : ByteArray := (L.getD k j0).1.s
def phJ (L : List J) (k : Nat) : Ph := (L.getD k j0).2.2
theorem bin_chain {bd : Nat} {X : List Tok} {p : Ph} {L : List J} {d : Nat} (hbd : bd < 8) (h2 : bd ≠ 2) (h3 : bd ≠ 3) (h0 : IsBin (bd + 1) X p d) (hL : ∀ e ∈ L, opOk bd e.1 = true ∧ IsBin (bd + 1) e.2.1 e.2.2 d) : IsBin bd (X ++ jt L) (chB p (nmJ L) (phJ L) L.length) d := by
 refine ⟨fun h => h0.ne (List.append_eq_nil_iff.1 h).1, by rw [hd_app h0.ne]; exact h0.head, fun T a o R pb b c hs hf ho => ?_⟩
 have hz := hs.size (fun h => h0.ne (List.append_eq_nil_iff.1 h).1)
 rw [List.length_append] at hz ⊢
 have s1 := hs.assoc
 have s2 := hs.tail
 have hfo : ∀ k, folB (bd + 1) (hd (jt (L.drop k) ++ R)) = true := fun k => jt_fol (P := fun u => folB (bd + 1) u = true) (fun e he => opOk_fol (hL e he).1) (folB_up hf (by omega)) k
 have r0 := h0.run T a o _ pb b c s1 (hfo 0) ho
 rw [← Nat.add_assoc, ← jAt_len]
 have e0 : RunT pb b c T 85 #[.pointer (some ⟨pb, 0, none⟩), .int .i64 ((bd + 1 : Nat) : Int)] ⟨a, o, 0⟩ ⟨jAt (a + X.length) L 0, o, 0⟩ p := by rw [jAt_zero]; exact r0
 have hle : ∀ k, jAt (a + X.length) L k ≤ 200 := fun k => by have := jAt_le (a := a + X.length) (L := L) (k := k); omega
 have hat : a ≤ 300 := by omega
 exact binary_chain (st := ⟨a, o, 0⟩) (ST := fun k => ⟨jAt (a + X.length) L k, o, 0⟩) (NM := nmJ L) (A := phJ L) hs.len hbd h2 h3 hat (fun k _ => by have := hle k; simp only; omega) e0
  (fun k hk => by
   obtain ⟨q1, q2⟩ := opOk_next (hL _ (j_mem hk)).1
   have e : seeM T ⟨jAt (a + X.length) L k, o, 0⟩ 0 = (L.getD k j0).1 := see0.trans (s2.jt hk).cons.1
   exact ⟨by rw [e]; exact q1, ⟨_, _, e⟩, q2⟩)
  (fun k hk => by
   have r := (hL _ (j_mem hk)).2.run T _ o _ pb b c (s2.jt hk).cons.2 (hfo (k + 1)) ho
   rw [← jAt_succ hk] at r
   exact r)
  (by rw [see0, Nat.add_zero, s2.je]; exact (folB_A hf).2 bd (Nat.le_refl _))
  (fun k hk => by simp only; rw [jAt_succ hk]; omega)
theorem bin_two {bd : Nat} {X Y : List Tok} {u : Tok} {p q : Ph} {d : Nat} (hbd : bd < 8) (h0 : IsBin (bd + 1) X p d) (hu : opOk bd u = true) (h1 : IsBin (bd + 1) Y q d) : IsBin bd (X ++ (u :: Y)) (chB p (nmJ [(u, Y, q)]) (phJ [(u, Y, q)]) 1) d := by
 by_cases h23 : bd = 2 ∨ bd = 3
 · refine ⟨by simp, by rw [hd_app h0.ne]; exact h0.head, fun T a o R pb b c hs hf ho => ?_⟩
   have hz := hs.size (by simp)
   rw [List.length_append, List.length_cons] at hz ⊢
   have s1 := hs.assoc
   have s2 := hs.tail.cons
   have r0 := h0.run T a o _ pb b c s1 (opOk_fol hu) ho
   have r1 := h1.run T _ o R pb b c s2.2 (folB_up hf (by omega)) ho
   obtain ⟨q1, q2⟩ := opOk_next hu
   have hat : a ≤ 300 := by omega
   have e : seeM T ⟨a + X.length, o, 0⟩ 0 = u := see0.trans s2.1
   have k := binary_one (st := ⟨a, o, 0⟩) (n := 1) (ST := fun k => if k = 0 then ⟨a + X.length, o, 0⟩ else ⟨a + X.length + 1 + Y.length, o, 0⟩) (NM := nmJ [(u, Y, q)]) (A := phJ [(u, Y, q)]) (p0 := p) (pb := pb) (b := b) (c := c) hs.len h23 hat (fun k hk => by by_cases hk0 : k = 0 <;> simp [hk0] <;> omega) (by simp only [if_true]; exact r0)
    (fun k hk => by
     obtain rfl : k = 0 := by omega
     simp only [if_true]
     exact ⟨by rw [e]; exact q1, ⟨u.kind, u.n, e⟩, q2⟩)
    (fun k hk => by
     obtain rfl : k = 0 := by omega
     simp only [if_true, Nat.zero_add, Nat.one_ne_zero, if_false]
     exact r1) rfl
   simp only [Nat.one_ne_zero, if_false] at k
   rw [show a + (X.length + (Y.length + 1)) = a + X.length + 1 + Y.length by omega]
   exact k
 · have k := bin_chain (L := [(u, Y, q)]) hbd (fun h => h23 (.inl h)) (fun h => h23 (.inr h)) h0 (fun e he => by rw [List.mem_singleton.1 he]; exact ⟨hu, h1⟩)
   simpa [jt] using k
structure IsMin (X : List Tok) (p : Ph) (d : Nat) : Prop where
 ne : X ≠ []
 head : headK (hd X) = true
 run : Dv 98 [] folA X p d
theorem headM_parts {u : Tok} (h : headM u = true) : headK u = true ∧ eqT u ⟨5, ⟨#[45]⟩, 0⟩ = false := by
 unfold headM at h
 simpa using h
theorem headP_parts {u : Tok} (h : headP u = true) : headM u = true ∧ eqT u ⟨5, ⟨#[47]⟩, 0⟩ = false ∧ eqT u ⟨5, ⟨#[47, 47]⟩, 0⟩ = false ∧ stepB u = true := by
 unfold headP at h
 simpa using h
theorem min_bin {X : List Tok} {p : Ph} {d : Nat} (h : IsMin X p d) : IsBin 8 X p d := by
 refine ⟨h.ne, h.head, fun T a o R pb b c hs hf ho => ?_⟩
 have hz := hs.size h.ne
 have l1 : a ≤ 300 := by omega
 have k := h.run T a o R pb b c hs (folB_A hf).1 ho
 exact binary_top (st := ⟨a, o, 0⟩) hs.len l1 k
theorem min_minus {X : List Tok} {p : Ph} {d : Nat} (h : IsMin X p d) : IsMin (⟨5, ⟨#[45]⟩, 0⟩ :: X) (phN 26 ⟨0, 0, ⟨#[]⟩⟩ ⟨#[]⟩ 0 0 0 ⟨#[]⟩ 1 (fun _ => p)) (d + 1) := by
 refine ⟨by simp, show headK ⟨5, ⟨#[45]⟩, 0⟩ = true by decide +kernel, fun T a o R pb b c hs hf ho => ?_⟩
 have hz := hs.size (by simp)
 have h1 := hs.cons
 have k := h.run T (a + 1) (o + 1) R pb b c h1.2 hf (by omega)
 rw [show a + 1 + X.length = a + (⟨5, ⟨#[45]⟩, 0⟩ :: X : List Tok).length by rw [List.length_cons]; omega] at k
 have e : seeM T ⟨a, o, 0⟩ 0 = ⟨5, ⟨#[45]⟩, 0⟩ := see0.trans h1.1
 have e' : seeM T ⟨a, o + 1, 0⟩ 0 = ⟨5, ⟨#[45]⟩, 0⟩ := see0.trans h1.1
 have l1 : a ≤ 300 := by omega
 have l2 : o ≤ 100 := by omega
 have l3 : o + 1 ≤ 200 := by omega
 exact minus_one (st := ⟨a, o, 0⟩) (s0 := ⟨a, o + 1, 0⟩) (s1 := ⟨a + (⟨5, ⟨#[45]⟩, 0⟩ :: X : List Tok).length, o + 1, 0⟩) (uk := 5) (us := ⟨#[45]⟩) (un := 0) hs.len l1 e (by decide) l2 (ent0 (by omega)) l1 (by rw [e']; decide) ⟨by simp, l3⟩ k
def Stp (d : Nat) (L : List J) : Prop := ∀ e ∈ L, (e.1 = ⟨5, ⟨#[47]⟩, 0⟩ ∨ e.1 = ⟨5, ⟨#[47, 47]⟩, 0⟩) ∧ IsStep e.2.1 e.2.2 d
def sepJ (L : List J) (k : Nat) : Bool := eqT (L.getD k j0).1 ⟨5, ⟨#[47, 47]⟩, 0⟩
theorem steps_chain {T : List Tok} {a o d : Nat} {L : List J} {R : List Tok} {pb b c : Nat} {p0 : Ph} (hL : Stp d L) (h : Sp T a (jt L) R) (hz : a + (jt L).length ≤ 200) (hf : folA (hd R) = true) (ho : o + d ≤ 30) : RunS pb b c T ⟨a, o, 0⟩ ⟨a + (jt L).length, o, 0⟩ p0 (chP p0 (sepJ L) (phJ L) L.length) := by
 have hfo : ∀ k, folS (hd (jt (L.drop k) ++ R)) = true := fun k => jt_fol (P := fun u => folS u = true) (fun e he => by rcases (hL e he).1 with h | h <;> rw [h] <;> decide +kernel) (folA_S hf).1 k
 rw [← jAt_len]
 have hle : ∀ k, jAt a L k ≤ 200 := fun k => by have := jAt_le (a := a) (L := L) (k := k); omega
 have see : ∀ k, k < L.length → seeM T ⟨jAt a L k, o, 0⟩ 0 = (L.getD k j0).1 := fun k hk => see0.trans (h.jt hk).cons.1
 have r := steps_run (pb := pb) (b := b) (c := c) (T := T) (ST := fun k => ⟨jAt a L k, o, 0⟩) (n := L.length) (SEP := sepJ L) (A := phJ L) (p0 := p0) h.len (fun k _ => by have := hle k; simp only; omega)
  (fun k hk hs => by
   rw [see k hk]
   unfold sepJ at hs
   rcases (hL _ (j_mem hk)).1 with h | h <;> rw [h] at hs ⊢
   · decide
   · exact absurd hs (by decide))
  (fun k hk hs => by
   rw [see k hk]
   unfold sepJ at hs
   rcases (hL _ (j_mem hk)).1 with h | h <;> rw [h] at hs ⊢
   · exact absurd hs (by decide)
   · decide)
  (fun k hk => by
   have r := (hL _ (j_mem hk)).2.run T _ o _ pb b c (h.jt hk).cons.2 (hfo (k + 1)) ho
   rw [← jAt_succ hk] at r
   exact r)
  (by rw [see0, Nat.add_zero, h.je]; exact (folA_S hf).2)
  (fun k hk => by simp only; rw [jAt_succ hk]; omega)
 simpa only [jAt_zero] using r
inductive IsPth (d : Nat) : List Tok → Prop
 | step {X : List Tok} {p : Ph} {L : List J} (h : IsStep X p d) (hL : Stp d L) : IsPth d (X ++ jt L)
 | dos {Y : List Tok} {q : Ph} {L : List J} (hL : Stp d ((⟨5, ⟨#[47, 47]⟩, 0⟩, Y, q) :: L)) : IsPth d (jt ((⟨5, ⟨#[47, 47]⟩, 0⟩, Y, q) :: L))
 | root {X : List Tok} {p : Ph} {L : List J} (h : IsStep X p d) (hL : Stp d L) : IsPth d (⟨5, ⟨#[47]⟩, 0⟩ :: (X ++ jt L))
theorem Stp.snoc {d : Nat} {L : List J} {t : Tok} {Y : List Tok} {q : Ph} (h : Stp d L) (ht : t = ⟨5, ⟨#[47]⟩, 0⟩ ∨ t = ⟨5, ⟨#[47, 47]⟩, 0⟩) (hy : IsStep Y q d) : Stp d (L ++ [(t, Y, q)]) := fun e he => by
 rcases List.mem_append.1 he with he | he
 · exact h e he
 · rw [List.mem_singleton.1 he]; exact ⟨ht, hy⟩
theorem jt_one (L : List J) (t : Tok) (Y : List Tok) (q : Ph) : jt (L ++ [(t, Y, q)]) = jt L ++ (t :: Y) := by
 rw [jt_app]
 simp [jt]
theorem IsPth.grow {d : Nat} {X : List Tok} (h : IsPth d X) {t : Tok} {Y : List Tok} {q : Ph} (ht : t = ⟨5, ⟨#[47]⟩, 0⟩ ∨ t = ⟨5, ⟨#[47, 47]⟩, 0⟩) (hy : IsStep Y q d) : IsPth d (X ++ (t :: Y)) := by
 cases h with
 | step h hL =>
  have k := IsPth.step h (hL.snoc ht hy)
  rw [jt_one, ← List.append_assoc] at k
  exact k
 | dos hL =>
  have k := IsPth.dos (hL.snoc ht hy)
  rw [← jt_one]
  exact k
 | root h hL =>
  have k := IsPth.root h (hL.snoc ht hy)
  rw [jt_one, ← List.append_assoc] at k
  exact k
theorem pth_min {d : Nat} {X : List Tok} (h : IsPth d X) : ∃ p, IsMin X p d := by
 cases h with
 | @step X p L h hL =>
  have ne : X ++ jt L ≠ [] := fun e => h.ne (List.append_eq_nil_iff.1 e).1
  obtain ⟨p1, p2, p3, p4⟩ := headP_parts h.head
  refine ⟨chP p (sepJ L) (phJ L) L.length, ne, by rw [hd_app h.ne]; exact (headM_parts p1).1, fun T a o R pb b c hs hf ho => ?_⟩
  have hz := hs.size ne
  have s1 := hs.assoc
  have s2 := hs.tail
  rw [List.length_append] at hz ⊢
  rw [← Nat.add_assoc]
  have l1 : a ≤ 300 := by omega
  have l2 : a + X.length + (jt L).length ≤ 200 := by omega
  have e : seeM T ⟨a, o, 0⟩ 0 = hd X := see0.trans (s1.fst h.ne)
  have r0 := h.run T a o _ pb b c s1 (jt_fol (P := fun u => folS u = true) (fun e he => by rcases (hL e he).1 with h | h <;> rw [h] <;> decide +kernel) (folA_S hf).1 0) ho
  have r1 := steps_chain (pb := pb) (b := b) (c := c) (p0 := p) hL s2 l2 hf ho
  exact minus_none (st := ⟨a, o, 0⟩) hs.len l1 (e.trans rfl) (headM_parts p1).2 (path_steps (st := ⟨a, o, 0⟩) hs.len l1 (e.trans rfl) p3 p2 r0 r1)
 | @dos Y q L hL =>
  have ne : jt ((⟨5, ⟨#[47, 47]⟩, 0⟩, Y, q) :: L) ≠ [] := by simp [jt]
  refine ⟨chP rootP (sepJ ((⟨5, ⟨#[47, 47]⟩, 0⟩, Y, q) :: L)) (phJ ((⟨5, ⟨#[47, 47]⟩, 0⟩, Y, q) :: L)) ((⟨5, ⟨#[47, 47]⟩, 0⟩, Y, q) :: L : List J).length, ne, show headK ⟨5, ⟨#[47, 47]⟩, 0⟩ = true by decide +kernel, fun T a o R pb b c hs hf ho => ?_⟩
  · have hz := hs.size ne
    have l1 : a ≤ 300 := by omega
    have e : seeM T ⟨a, o, 0⟩ 0 = ⟨5, ⟨#[47, 47]⟩, 0⟩ := see0.trans (hs.fst ne)
    have r1 := steps_chain (pb := pb) (b := b) (c := c) (p0 := rootP) hL hs (by omega) hf ho
    exact minus_none (st := ⟨a, o, 0⟩) hs.len l1 e (by decide) (path_dos (st := ⟨a, o, 0⟩) hs.len l1 e (by decide) r1)
 | @root X p L h hL =>
  obtain ⟨p1, p2, p3, p4⟩ := headP_parts h.head
  refine ⟨chP (pathP rootP p) (sepJ L) (phJ L) L.length, by simp, show headK ⟨5, ⟨#[47]⟩, 0⟩ = true by decide +kernel, fun T a o R pb b c hs hf ho => ?_⟩
  have hz := hs.size (by simp)
  have s0 := hs.cons
  have s1 := s0.2.assoc
  have s2 := s0.2.tail
  rw [List.length_cons, List.length_append] at hz ⊢
  rw [show a + (X.length + (jt L).length + 1) = a + 1 + X.length + (jt L).length by omega]
  have l1 : a ≤ 300 := by omega
  have l3 : a + 1 ≤ 300 := by omega
  have l2 : a + 1 + X.length + (jt L).length ≤ 200 := by omega
  have e : seeM T ⟨a, o, 0⟩ 0 = ⟨5, ⟨#[47]⟩, 0⟩ := see0.trans s0.1
  have e1 : seeM T ⟨a + 1, o, 0⟩ 0 = hd X := see0.trans (s1.fst h.ne)
  have r0 := h.run T (a + 1) o _ pb b c s1 (jt_fol (P := fun u => folS u = true) (fun e he => by rcases (hL e he).1 with h | h <;> rw [h] <;> decide +kernel) (folA_S hf).1 0) ho
  have r1 := steps_chain (pb := pb) (b := b) (c := c) (p0 := pathP rootP p) hL s2 l2 hf ho
  exact minus_none (st := ⟨a, o, 0⟩) hs.len l1 e (by decide) (path_root (st := ⟨a, o, 0⟩) hs.len l1 e (by decide) (by decide) l3 (by rw [e1]; exact p4) r0 r1)
end Go.Proofs.YtbnlekhjgkojlaaGreatDoor
