import Derived.Test.YtbnlekhjgkojlaaGreatDoorDvB
set_option linter.unusedVariables false
namespace Go.Proofs.YtbnlekhjgkojlaaGreatDoor
set_option maxRecDepth 100000
open Go.RowKit
structure IsSg (X : List Tok) (p : Ph) (d : Nat) : Prop where
 ne : X ≠ []
 head : headE (hd X) = true
 run : Dv 68 [] (folB 0) X p d
theorem IsSg.more {X : List Tok} {p : Ph} {d e : Nat} (h : IsSg X p d) (hd : d ≤ e) : IsSg X p e := ⟨h.ne, h.head, h.run.more hd⟩
theorem headK_parts {u : Tok} (h : headK u = true) : headE u = true ∧ eqT u ⟨1, ⟨#[102, 111, 114]⟩, 0⟩ = false ∧ eqT u ⟨1, ⟨#[108, 101, 116]⟩, 0⟩ = false ∧ eqT u ⟨1, ⟨#[115, 111, 109, 101]⟩, 0⟩ = false ∧ eqT u ⟨1, ⟨#[101, 118, 101, 114, 121]⟩, 0⟩ = false ∧ eqT u ⟨1, ⟨#[105, 102]⟩, 0⟩ = false := by
 unfold headK at h
 simpa using h
theorem sg_bin {X : List Tok} {p : Ph} {d : Nat} (h : IsBin 0 X p d) : IsSg X p (d + 1) := by
 obtain ⟨e1, e2, e3, e4, e5, e6⟩ := headK_parts h.head
 refine ⟨h.ne, e1, fun T a o R pb b c hs hf ho => ?_⟩
 have hz := hs.size h.ne
 have l1 : a ≤ 300 := by omega
 have l2 : o ≤ 100 := by omega
 have l3 : o + 1 ≤ 200 := by omega
 have r := h.run T a (o + 1) R pb b c hs hf (by omega)
 have e : seeM T ⟨a, o + 1, 0⟩ 0 = hd X := see0.trans (hs.fst h.ne)
 by_cases k4 : ((tkA T (a + 1)).kind == 4) = true
 · exact single_bnd (st := ⟨a, o, 0⟩) (s0 := ⟨a, o + 1, 0⟩) (s1 := ⟨a + X.length, o + 1, 0⟩) (vk := (tkA T (a + 1)).kind) (vs := (tkA T (a + 1)).s) (vn := (tkA T (a + 1)).n) hs.len l1 l1 l2 ⟨by simp, l3⟩ (ent0 (by omega)) (e.trans rfl) see0 k4 e2 e3 e4 e5 e6 r
 · exact single_bin (st := ⟨a, o, 0⟩) (s0 := ⟨a, o + 1, 0⟩) (s1 := ⟨a + X.length, o + 1, 0⟩) (vk := (tkA T (a + 1)).kind) (vs := (tkA T (a + 1)).s) (vn := (tkA T (a + 1)).n) hs.len l1 l1 l2 ⟨by simp, l3⟩ (ent0 (by omega)) (e.trans rfl) see0 (by simpa using k4) e6 r
theorem sg_min {X : List Tok} {p : Ph} {d : Nat} (h : IsMin X p d) : IsSg X p (d + 1) := sg_bin ((min_bin h).down 0)
theorem prim_pth {X : List Tok} {p : Ph} {d : Nat} (h : IsPrim X p d) : IsPth (d + 1) X := by
 have k := IsPth.step (st_plain h) (L := []) (fun e he => absurd he (by simp))
 simpa [jt] using k
theorem st_pth {X : List Tok} {p : Ph} {d : Nat} (h : IsStep X p d) : IsPth d X := by
 have k := IsPth.step h (L := []) (fun e he => absurd he (by simp))
 simpa [jt] using k
def Sgs (d : Nat) (L : List J) : Prop := ∀ e ∈ L, e.1 = ⟨5, ⟨#[44]⟩, 0⟩ ∧ IsSg e.2.1 e.2.2 d
def phC (p : Ph) (L : List J) (k : Nat) : Ph := if k = 0 then p else phJ L (k - 1)
theorem sgs_chain {T : List Tok} {a o d : Nat} {X : List Tok} {p : Ph} {L : List J} {R : List Tok} {pb b c : Nat} (h : IsSg X p d) (hL : Sgs d L) (hs : Sp T a (X ++ jt L) R) (hf : folL (hd R) = true) (ho : o + d ≤ 30) : RunL pb b c T 44 ⟨a, o, 0⟩ ⟨a + (X ++ jt L).length, o, 0⟩ (L.length + 1) (phC p L) := by
 have ne : X ++ jt L ≠ [] := fun e => h.ne (List.append_eq_nil_iff.1 e).1
 have hz := hs.size ne
 rw [List.length_append] at hz ⊢
 have s1 := hs.assoc
 have s2 := hs.tail
 have hfo : ∀ k, folB 0 (hd (jt (L.drop k) ++ R)) = true := fun k => jt_fol (P := fun u => folB 0 u = true) (fun e he => by rw [(hL e he).1]; decide +kernel) (folL_B hf).1 k
 rw [← Nat.add_assoc, ← jAt_len]
 have hle : ∀ k, jAt (a + X.length) L k ≤ 200 := fun k => by have := jAt_le (a := a + X.length) (L := L) (k := k); omega
 have r0 := h.run T a o _ pb b c s1 (hfo 0) ho
 have hl : L.length ≤ (jt L).length := by
  clear hL hs s1 s2 hfo hle r0 hz ne
  induction L with
  | nil => exact Nat.zero_le _
  | cons e L ih => simp only [jt, List.length_cons, List.length_append]; omega
 have r := singles_is (pb := pb) (b := b) (c := c) (st := ⟨a, o, 0⟩) (n := L.length + 1) (A := phC p L) (ST := fun k => ⟨jAt (a + X.length) L (k - 1), o, 0⟩) hs.len (by omega) (by omega) (fun k hk => by have := hle (k - 1); simp only; omega)
  (by simp only [Nat.sub_self, jAt_zero]; exact r0)
  (fun k k1 k2 => by
   have e : seeM T ⟨jAt (a + X.length) L (k - 1), o, 0⟩ 0 = (L.getD (k - 1) j0).1 := see0.trans (s2.jt (by omega)).cons.1
   rw [e, (hL _ (j_mem (by omega))).1]; exact eqT_self)
  (fun k k1 k2 => by
   obtain ⟨j, rfl⟩ : ∃ j, k = j + 1 := ⟨k - 1, by omega⟩
   have hj : j < L.length := by omega
   have r := (hL _ (j_mem hj)).2.run T _ o _ pb b c (s2.jt hj).cons.2 (hfo (j + 1)) ho
   rw [← jAt_succ hj] at r
   simp only [Nat.add_sub_cancel]
   unfold phC
   rw [if_neg (by omega)]
   exact r)
  (by
   simp only [Nat.add_sub_cancel]
   rw [see0, Nat.add_zero, s2.je]; exact (folL_B hf).2)
 simpa only [Nat.add_sub_cancel] using r
theorem ls_sgs {X : List Tok} {p : Ph} {L : List J} {d : Nat} (h : IsSg X p d) (hL : Sgs d L) : ∃ q, IsLs (X ++ jt L) q (d + 1) := by
 have ne : X ++ jt L ≠ [] := fun e => h.ne (List.append_eq_nil_iff.1 e).1
 by_cases hn : L = []
 · subst hn
   refine ⟨p, ne, by rw [hd_app h.ne]; exact h.head, fun T a o R pb b c hs hf ho => ?_⟩
   have hz := hs.size ne
   have l1 : a ≤ 300 := by omega
   have l2 : o ≤ 100 := by omega
   have l3 : o + 1 ≤ 200 := by omega
   have r := sgs_chain (pb := pb) (b := b) (c := c) (o := o + 1) h hL hs hf (by omega)
   exact list_one (st := ⟨a, o, 0⟩) (s0 := ⟨a, o + 1, 0⟩) (s1 := ⟨a + (X ++ jt []).length, o + 1, 0⟩) (A := phC p []) hs.len l1 l2 ⟨by simp, l3⟩ (ent0 (by omega)) r
 · refine ⟨phN 3 ⟨0, 0, ⟨#[]⟩⟩ ⟨#[]⟩ 0 0 0 ⟨#[]⟩ (L.length + 1) (phC p L), ne, by rw [hd_app h.ne]; exact h.head, fun T a o R pb b c hs hf ho => ?_⟩
   have hz := hs.size ne
   have l1 : a ≤ 300 := by omega
   have l2 : o ≤ 100 := by omega
   have l3 : o + 1 ≤ 200 := by omega
   have l4 : L.length + 1 ≠ 1 := by have := List.length_pos_iff.2 hn; omega
   have r := sgs_chain (pb := pb) (b := b) (c := c) (o := o + 1) h hL hs hf (by omega)
   exact list_more (st := ⟨a, o, 0⟩) (s0 := ⟨a, o + 1, 0⟩) (s1 := ⟨a + (X ++ jt L).length, o + 1, 0⟩) hs.len l1 l2 ⟨by simp, l3⟩ (ent0 (by omega)) l4 r
theorem ls_sg {X : List Tok} {p : Ph} {d : Nat} (h : IsSg X p d) : ∃ q, IsLs X q (d + 1) := by
 have k := ls_sgs h (L := []) (fun e he => absurd he (by simp))
 simpa [jt] using k
theorem prim_call0 {s : ByteArray} (h : nameG s = true) : IsPrim [⟨1, s, 0⟩, ⟨5, ⟨#[40]⟩, 0⟩, ⟨5, ⟨#[41]⟩, 0⟩] (ph0 8 ⟨0, 0, ⟨#[]⟩⟩ s 0 0 0 ⟨#[]⟩) 0 := by
 obtain ⟨h1, h2, h3⟩ := nameG_parts h
 have hm := fun v w => callN_mk h1 v w
 refine prim_word (nm := s) (by simp) h2 rfl (fun R => by show eqT ⟨5, ⟨#[40]⟩, 0⟩ ⟨5, ⟨#[58, 58]⟩, 0⟩ = false; decide) (fun R => ?_) ?_
 · show childB ⟨1, s, 0⟩ ⟨5, ⟨#[40]⟩, 0⟩ ⟨5, ⟨#[41]⟩, 0⟩ = false
   unfold childB
   rw [(hm _ _).1, eqT_kind (by decide), (hm tok0 tok0).2, eqT_self]
   rfl
 · intro T a o R pb b c hs hf ho
   have hz := hs.size (by simp)
   simp only [List.length_cons, List.length_nil] at hz
   have e0 : seeM T ⟨a, o, 0⟩ 0 = ⟨1, s, 0⟩ := see0.trans hs.first
   have e1 : tkA T (a + 1) = ⟨5, ⟨#[40]⟩, 0⟩ := hs.at 1
   have e2 : tkA T (a + 2) = ⟨5, ⟨#[41]⟩, 0⟩ := hs.at 2
   have l1 : a ≤ 300 := by omega
   have l2 : a + 1 ≤ 300 := by omega
   have l3 : a + 2 ≤ 300 := by omega
   exact noStep_call (st := ⟨a, o, 0⟩) (us := s) (un := 0) (u1k := 5) (u1s := ⟨#[40]⟩) (u1n := 0) hs.len l1 e0 (see0.trans e1) (eqT_kind (by decide)) (eqT_kind (by decide)) (by decide) (by rw [e0]; exact (hm _ _).1) (call_none (st := ⟨a, o, 0⟩) (us := s) (un := 0) (s2 := ⟨a + 2, o, 0⟩) hs.len l1 e0 h3 l2 (want0 (by rw [e1]; exact eqT_self)) l3 (by rw [see0, Nat.add_zero, e2]; exact eqT_self))
theorem prim_calln {s : ByteArray} {X : List Tok} {p : Ph} {L : List J} {d : Nat} (h : nameG s = true) (hx : IsSg X p d) (hL : Sgs d L) : ∃ q, IsPrim (⟨1, s, 0⟩ :: ⟨5, ⟨#[40]⟩, 0⟩ :: ((X ++ jt L) ++ [⟨5, ⟨#[41]⟩, 0⟩])) q d := by
 obtain ⟨h1, h2, h3⟩ := nameG_parts h
 have hm := fun v w => callN_mk h1 v w
 refine ⟨phN 8 ⟨0, 0, ⟨#[]⟩⟩ s 0 0 0 ⟨#[]⟩ (L.length + 1) (phC p L), prim_word (nm := s) (by simp) h2 rfl (fun R => by show eqT ⟨5, ⟨#[40]⟩, 0⟩ ⟨5, ⟨#[58, 58]⟩, 0⟩ = false; decide) (fun R => ?_) ?_⟩
 · show childB ⟨1, s, 0⟩ ⟨5, ⟨#[40]⟩, 0⟩ _ = false
   unfold childB
   rw [(hm _ _).1, eqT_kind (by decide), (hm tok0 tok0).2, eqT_self]
   rfl
 · intro T a o R pb b c hs hf ho
   have hz := hs.size (by simp)
   simp only [List.length_cons, List.length_append, List.length_nil] at hz
   have s1 := hs.cons
   have s2 := s1.2.cons
   have s3 := s2.2.assoc
   have s4 := s2.2.tail.cons
   have e0 : seeM T ⟨a, o, 0⟩ 0 = ⟨1, s, 0⟩ := see0.trans s1.1
   have e1 : tkA T (a + 1) = ⟨5, ⟨#[40]⟩, 0⟩ := s2.1
   have ne : X ++ jt L ≠ [] := fun e => hx.ne (List.append_eq_nil_iff.1 e).1
   have e2 : seeM T ⟨a + 2, o, 0⟩ 0 = hd X := see0.trans ((s3.fst ne).trans (hd_app hx.ne))
   have l1 : a ≤ 300 := by omega
   have l2 : a + 1 ≤ 300 := by omega
   have l3 : a + 2 ≤ 300 := by omega
   have l4 : a + 1 + 1 + (X ++ jt L).length ≤ 300 := by rw [List.length_append]; omega
   have r := sgs_chain (pb := pb) (b := b) (c := c) (o := o) hx hL s3 (by show folL ⟨5, ⟨#[41]⟩, 0⟩ = true; decide +kernel) ho
   have e : a + (⟨1, s, 0⟩ :: ⟨5, ⟨#[40]⟩, 0⟩ :: ((X ++ jt L) ++ [⟨5, ⟨#[41]⟩, 0⟩]) : List Tok).length = a + 1 + 1 + (X ++ jt L).length + 1 := by
    simp only [List.length_cons, List.length_append, List.length_nil]; omega
   rw [e]
   exact noStep_call (st := ⟨a, o, 0⟩) (us := s) (un := 0) (u1k := 5) (u1s := ⟨#[40]⟩) (u1n := 0) hs.len l1 e0 (see0.trans e1) (eqT_kind (by decide)) (eqT_kind (by decide)) (by decide) (by rw [e0]; exact (hm _ _).1) (call_some (st := ⟨a, o, 0⟩) (us := s) (un := 0) (s2 := ⟨a + 2, o, 0⟩) (s3 := ⟨a + 1 + 1 + (X ++ jt L).length, o, 0⟩) hs.len l1 e0 h3 l2 (want0 (by rw [e1]; exact eqT_self)) l3 (by rw [e2]; exact (headE_parts hx.head).1) l4 (want0 (by rw [s4.1]; exact eqT_self)) r)
theorem prim_call1 {s : ByteArray} {X : List Tok} {p : Ph} {d : Nat} (h : nameG s = true) (hx : IsSg X p d) : ∃ q, IsPrim (⟨1, s, 0⟩ :: ⟨5, ⟨#[40]⟩, 0⟩ :: (X ++ [⟨5, ⟨#[41]⟩, 0⟩])) q d := by
 have k := prim_calln h hx (L := []) (fun e he => absurd he (by simp))
 simpa [jt] using k
theorem prim_elem {s : ByteArray} {X : List Tok} {p : Ph} {d : Nat} (hz' : s.size ≤ 4000) (h : IsLs X p d) : ∃ q, IsPrim (⟨1, ⟨#[101, 108, 101, 109, 101, 110, 116]⟩, 0⟩ :: ⟨1, s, 0⟩ :: ⟨5, ⟨#[123]⟩, 0⟩ :: (X ++ [⟨5, ⟨#[125]⟩, 0⟩])) q d := by
 have hm : mkBeg ⟨1, ⟨#[101, 108, 101, 109, 101, 110, 116]⟩, 0⟩ ⟨1, s, 0⟩ ⟨5, ⟨#[123]⟩, 0⟩ = true := by
  unfold mkBeg
  rw [if_pos (by decide)]
  show (((1 : Int) == 1) && eqT ⟨5, ⟨#[123]⟩, 0⟩ ⟨5, ⟨#[123]⟩, 0⟩) = true
  decide
 have hup := up_ls h (es := ⟨#[125]⟩) (by decide +kernel) (headE_parts h.head).2
 refine ⟨phN 10 ⟨0, 0, ⟨#[]⟩⟩ s 1 0 0 ⟨#[]⟩ 1 (fun _ => p), prim_word (nm := ⟨#[101, 108, 101, 109, 101, 110, 116]⟩) (by simp) (show headP ⟨1, ⟨#[101, 108, 101, 109, 101, 110, 116]⟩, 0⟩ = true by decide +kernel) rfl (fun R => by show eqT ⟨1, s, 0⟩ ⟨5, ⟨#[58, 58]⟩, 0⟩ = false; exact eqT_kind (by decide)) (fun R => ?_) ?_⟩
 · show childB ⟨1, ⟨#[101, 108, 101, 109, 101, 110, 116]⟩, 0⟩ ⟨1, s, 0⟩ ⟨5, ⟨#[123]⟩, 0⟩ = false
   unfold childB
   rw [hm]
   rfl
 · intro T a o R pb b c hs hf ho
   have hz := hs.size (by simp)
   simp only [List.length_cons, List.length_append, List.length_nil] at hz
   have s1 := hs.cons
   have s2 := s1.2.cons
   have s3 := s2.2.cons
   have e0 : seeM T ⟨a, o, 0⟩ 0 = ⟨1, ⟨#[101, 108, 101, 109, 101, 110, 116]⟩, 0⟩ := see0.trans s1.1
   have e1 : seeM T ⟨a, o, 0⟩ 1 = ⟨1, s, 0⟩ := see0.trans s2.1
   have e2 : seeM T ⟨a, o, 0⟩ 2 = ⟨5, ⟨#[123]⟩, 0⟩ := see0.trans s3.1
   have e3 : seeM T ⟨a + 1, o, 0⟩ 0 = ⟨1, s, 0⟩ := see0.trans s2.1
   have l1 : a ≤ 300 := by omega
   have l2 : a + 1 ≤ 300 := by omega
   have l3 : a + 1 + 1 ≤ 300 := by omega
   have r := hup T (a + 1 + 1 + 1) o R pb b c s3.2 rfl ho
   have e : a + (⟨1, ⟨#[101, 108, 101, 109, 101, 110, 116]⟩, 0⟩ :: ⟨1, s, 0⟩ :: ⟨5, ⟨#[123]⟩, 0⟩ :: (X ++ [⟨5, ⟨#[125]⟩, 0⟩]) : List Tok).length = a + 1 + 1 + 1 + (X ++ [⟨5, ⟨#[125]⟩, 0⟩] : List Tok).length := by
    simp only [List.length_cons, List.length_append, List.length_nil]; omega
   rw [e]
   exact noStep_make (st := ⟨a, o, 0⟩) (us := ⟨#[101, 108, 101, 109, 101, 110, 116]⟩) (uk := 1) (un := 0) hs.len l1 e0 (by decide) (by decide) (by decide) (by decide) (by decide) (by rw [e0, e1, e2]; exact hm) (cons_elem (st := ⟨a, o, 0⟩) (us := ⟨#[101, 108, 101, 109, 101, 110, 116]⟩) (un := 0) (u1s := s) (u1n := 0) (s2 := ⟨a + 1 + 1 + 1, o, 0⟩) hs.len l1 e0 (by decide) (by rw [ByteArray.toList_eq]; decide) l2 e3 hz' l3 (want0 (by rw [s3.1]; exact eqT_self)) r)
theorem prim_attr {s : ByteArray} {X : List Tok} {p : Ph} {d : Nat} (hz' : s.size ≤ 4000) (h : IsLs X p d) : ∃ q, IsPrim (⟨1, ⟨#[97, 116, 116, 114, 105, 98, 117, 116, 101]⟩, 0⟩ :: ⟨1, s, 0⟩ :: ⟨5, ⟨#[123]⟩, 0⟩ :: (X ++ [⟨5, ⟨#[125]⟩, 0⟩])) q d := by
 have hm : mkBeg ⟨1, ⟨#[97, 116, 116, 114, 105, 98, 117, 116, 101]⟩, 0⟩ ⟨1, s, 0⟩ ⟨5, ⟨#[123]⟩, 0⟩ = true := by
  unfold mkBeg
  rw [if_pos (by decide)]
  show (((1 : Int) == 1) && eqT ⟨5, ⟨#[123]⟩, 0⟩ ⟨5, ⟨#[123]⟩, 0⟩) = true
  decide
 have hup := up_ls h (es := ⟨#[125]⟩) (by decide +kernel) (headE_parts h.head).2
 refine ⟨phN 10 ⟨0, 0, ⟨#[]⟩⟩ s 2 0 0 ⟨#[]⟩ 1 (fun _ => p), prim_word (nm := ⟨#[97, 116, 116, 114, 105, 98, 117, 116, 101]⟩) (by simp) (show headP ⟨1, ⟨#[97, 116, 116, 114, 105, 98, 117, 116, 101]⟩, 0⟩ = true by decide +kernel) rfl (fun R => by show eqT ⟨1, s, 0⟩ ⟨5, ⟨#[58, 58]⟩, 0⟩ = false; exact eqT_kind (by decide)) (fun R => ?_) ?_⟩
 · show childB ⟨1, ⟨#[97, 116, 116, 114, 105, 98, 117, 116, 101]⟩, 0⟩ ⟨1, s, 0⟩ ⟨5, ⟨#[123]⟩, 0⟩ = false
   unfold childB
   rw [hm]
   rfl
 · intro T a o R pb b c hs hf ho
   have hz := hs.size (by simp)
   simp only [List.length_cons, List.length_append, List.length_nil] at hz
   have s1 := hs.cons
   have s2 := s1.2.cons
   have s3 := s2.2.cons
   have e0 : seeM T ⟨a, o, 0⟩ 0 = ⟨1, ⟨#[97, 116, 116, 114, 105, 98, 117, 116, 101]⟩, 0⟩ := see0.trans s1.1
   have e1 : seeM T ⟨a, o, 0⟩ 1 = ⟨1, s, 0⟩ := see0.trans s2.1
   have e2 : seeM T ⟨a, o, 0⟩ 2 = ⟨5, ⟨#[123]⟩, 0⟩ := see0.trans s3.1
   have e3 : seeM T ⟨a + 1, o, 0⟩ 0 = ⟨1, s, 0⟩ := see0.trans s2.1
   have l1 : a ≤ 300 := by omega
   have l2 : a + 1 ≤ 300 := by omega
   have l3 : a + 1 + 1 ≤ 300 := by omega
   have r := hup T (a + 1 + 1 + 1) o R pb b c s3.2 rfl ho
   have e : a + (⟨1, ⟨#[97, 116, 116, 114, 105, 98, 117, 116, 101]⟩, 0⟩ :: ⟨1, s, 0⟩ :: ⟨5, ⟨#[123]⟩, 0⟩ :: (X ++ [⟨5, ⟨#[125]⟩, 0⟩]) : List Tok).length = a + 1 + 1 + 1 + (X ++ [⟨5, ⟨#[125]⟩, 0⟩] : List Tok).length := by
    simp only [List.length_cons, List.length_append, List.length_nil]; omega
   rw [e]
   exact noStep_make (st := ⟨a, o, 0⟩) (us := ⟨#[97, 116, 116, 114, 105, 98, 117, 116, 101]⟩) (uk := 1) (un := 0) hs.len l1 e0 (by decide) (by decide) (by decide) (by decide) (by decide) (by rw [e0, e1, e2]; exact hm) (cons_attr (st := ⟨a, o, 0⟩) (us := ⟨#[97, 116, 116, 114, 105, 98, 117, 116, 101]⟩) (un := 0) (u1s := s) (u1n := 0) (s2 := ⟨a + 1 + 1 + 1, o, 0⟩) hs.len l1 e0 (by decide) (by rw [ByteArray.toList_eq]; decide) (by rw [ByteArray.toList_eq]; decide) l2 e3 hz' l3 (want0 (by rw [s3.1]; exact eqT_self)) r)
theorem prim_text {X : List Tok} {p : Ph} {d : Nat} (h : IsLs X p d) : ∃ q, IsPrim (⟨1, ⟨#[116, 101, 120, 116]⟩, 0⟩ :: ⟨5, ⟨#[123]⟩, 0⟩ :: (X ++ [⟨5, ⟨#[125]⟩, 0⟩])) q d := by
 have hm : ∀ w, mkBeg ⟨1, ⟨#[116, 101, 120, 116]⟩, 0⟩ ⟨5, ⟨#[123]⟩, 0⟩ w = true := fun w => by
  unfold mkBeg
  rw [if_neg (by decide), if_pos (by decide)]
  decide
 have hup := up_ls h (es := ⟨#[125]⟩) (by decide +kernel) (headE_parts h.head).2
 refine ⟨phN 10 ⟨0, 0, ⟨#[]⟩⟩ ⟨#[]⟩ 3 0 0 ⟨#[]⟩ 1 (fun _ => p), prim_word (nm := ⟨#[116, 101, 120, 116]⟩) (by simp) (show headP ⟨1, ⟨#[116, 101, 120, 116]⟩, 0⟩ = true by decide +kernel) rfl (fun R => by show eqT ⟨5, ⟨#[123]⟩, 0⟩ ⟨5, ⟨#[58, 58]⟩, 0⟩ = false; decide) (fun R => ?_) ?_⟩
 · show childB ⟨1, ⟨#[116, 101, 120, 116]⟩, 0⟩ ⟨5, ⟨#[123]⟩, 0⟩ _ = false
   unfold childB
   rw [hm]
   rfl
 · intro T a o R pb b c hs hf ho
   have hz := hs.size (by simp)
   simp only [List.length_cons, List.length_append, List.length_nil] at hz
   have s1 := hs.cons
   have s2 := s1.2.cons
   have e0 : seeM T ⟨a, o, 0⟩ 0 = ⟨1, ⟨#[116, 101, 120, 116]⟩, 0⟩ := see0.trans s1.1
   have e1 : seeM T ⟨a, o, 0⟩ 1 = ⟨5, ⟨#[123]⟩, 0⟩ := see0.trans s2.1
   have l1 : a ≤ 300 := by omega
   have l2 : a + 1 ≤ 300 := by omega
   have r := hup T (a + 1 + 1) o R pb b c s2.2 rfl ho
   have e : a + (⟨1, ⟨#[116, 101, 120, 116]⟩, 0⟩ :: ⟨5, ⟨#[123]⟩, 0⟩ :: (X ++ [⟨5, ⟨#[125]⟩, 0⟩]) : List Tok).length = a + 1 + 1 + (X ++ [⟨5, ⟨#[125]⟩, 0⟩] : List Tok).length := by
    simp only [List.length_cons, List.length_append, List.length_nil]; omega
   rw [e]
   exact noStep_make (st := ⟨a, o, 0⟩) (us := ⟨#[116, 101, 120, 116]⟩) (uk := 1) (un := 0) hs.len l1 e0 (by decide) (by decide) (by decide) (by decide) (by decide) (by rw [e0, e1]; exact hm _) (cons_text (st := ⟨a, o, 0⟩) (us := ⟨#[116, 101, 120, 116]⟩) (un := 0) (s2 := ⟨a + 1 + 1, o, 0⟩) hs.len l1 e0 (by decide) (by rw [ByteArray.toList_eq]; decide) (by rw [ByteArray.toList_eq]; decide) l2 (want0 (by rw [s2.1]; exact eqT_self)) r)
end Go.Proofs.YtbnlekhjgkojlaaGreatDoor
