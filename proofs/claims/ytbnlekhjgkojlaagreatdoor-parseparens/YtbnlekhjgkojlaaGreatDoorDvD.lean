import Derived.Test.YtbnlekhjgkojlaaGreatDoorDvC
set_option linter.unusedVariables false
namespace Go.Proofs.YtbnlekhjgkojlaaGreatDoor
set_option maxRecDepth 100000
open Go.RowKit
def wSome : Tok := ⟨1, ⟨#[115, 111, 109, 101]⟩, 0⟩
def wEvery : Tok := ⟨1, ⟨#[101, 118, 101, 114, 121]⟩, 0⟩
def wSat : Tok := ⟨1, ⟨#[115, 97, 116, 105, 115, 102, 105, 101, 115]⟩, 0⟩
def wIn : Tok := ⟨1, ⟨#[105, 110]⟩, 0⟩
def wIf : Tok := ⟨1, ⟨#[105, 102]⟩, 0⟩
def wThen : Tok := ⟨1, ⟨#[116, 104, 101, 110]⟩, 0⟩
def wElse : Tok := ⟨1, ⟨#[101, 108, 115, 101]⟩, 0⟩
def wFor : Tok := ⟨1, ⟨#[102, 111, 114]⟩, 0⟩
def wLet : Tok := ⟨1, ⟨#[108, 101, 116]⟩, 0⟩
def wRet : Tok := ⟨1, ⟨#[114, 101, 116, 117, 114, 110]⟩, 0⟩
def wWhere : Tok := ⟨1, ⟨#[119, 104, 101, 114, 101]⟩, 0⟩
def wOrder : Tok := ⟨1, ⟨#[111, 114, 100, 101, 114]⟩, 0⟩
def wBy : Tok := ⟨1, ⟨#[98, 121]⟩, 0⟩
def wAt : Tok := ⟨1, ⟨#[97, 116]⟩, 0⟩
def wDown : Tok := ⟨1, ⟨#[100, 101, 115, 99, 101, 110, 100, 105, 110, 103]⟩, 0⟩
def mBe : Tok := ⟨5, ⟨#[58, 61]⟩, 0⟩
def mOp : Tok := ⟨5, ⟨#[40]⟩, 0⟩
def mCl : Tok := ⟨5, ⟨#[41]⟩, 0⟩
def mCo : Tok := ⟨5, ⟨#[44]⟩, 0⟩
theorem sg_some {s : ByteArray} {X Y : List Tok} {p q : Ph} {d : Nat} (hz' : s.size ≤ 4000) (hx : IsSg X p d) (hy : IsSg Y q d) : ∃ r, IsSg (wSome :: ⟨4, s, 0⟩ :: wIn :: (X ++ (wSat :: Y))) r (d + 1) := by
 refine ⟨phN 23 ⟨0, 0, ⟨#[]⟩⟩ s 0 0 0 ⟨#[]⟩ 2 (fun i => if i = 0 then p else q), by simp, show headE wSome = true by decide +kernel, fun T a o R pb b c hs hf ho => ?_⟩
 have hz := hs.size (by simp)
 simp only [List.length_cons, List.length_append] at hz
 have s1 := hs.cons
 have s2 := s1.2.cons
 have s3 := s2.2.cons
 have s4 := s3.2.assoc
 have s5 := s3.2.tail.cons
 have l1 : a ≤ 300 := by omega
 have l2 : o ≤ 100 := by omega
 have l3 : o + 1 ≤ 200 := by omega
 have l4 : a + 1 ≤ 300 := by omega
 have l5 : a + 1 + 1 ≤ 300 := by omega
 have l6 : a + 1 + 1 + 1 + X.length ≤ 300 := by omega
 have e0 : seeM T ⟨a, o + 1, 0⟩ 0 = wSome := see0.trans s1.1
 have e1 : seeM T ⟨a, o + 1, 0⟩ 1 = ⟨4, s, 0⟩ := see0.trans s2.1
 have e2 : seeM T ⟨a + 1, o + 1, 0⟩ 0 = ⟨4, s, 0⟩ := see0.trans s2.1
 have r1 := hx.run T _ (o + 1) _ pb b c s4 (by show folB 0 wSat = true; decide +kernel) (by omega)
 have r2 := hy.run T _ (o + 1) R pb b c s5.2 hf (by omega)
 have e : a + (wSome :: ⟨4, s, 0⟩ :: wIn :: (X ++ (wSat :: Y)) : List Tok).length = a + 1 + 1 + 1 + X.length + 1 + Y.length := by
  simp only [List.length_cons, List.length_append]; omega
 rw [e]
 have k := quantified_is (pb := pb) (b := b) (c := c) (st := ⟨a, o + 1, 0⟩) (kd := 23) (us := s) (un := 0) (s2 := ⟨a + 1 + 1 + 1, o + 1, 0⟩) (s3 := ⟨a + 1 + 1 + 1 + X.length, o + 1, 0⟩) (s4 := ⟨a + 1 + 1 + 1 + X.length + 1, o + 1, 0⟩) hs.len l1 l4 e2 hz' l5 (want0 (by rw [s3.1]; exact eqT_self)) l6 (want0 (by rw [s5.1]; exact eqT_self)) r1 r2
 exact single_some (st := ⟨a, o, 0⟩) (s0 := ⟨a, o + 1, 0⟩) (s1 := ⟨a + 1 + 1 + 1 + X.length + 1 + Y.length, o + 1, 0⟩) hs.len l1 l1 l2 ⟨by simp, l3⟩ (ent0 (by omega)) e0 e1 (by decide) (by decide) (by decide) (by decide) k
theorem sg_every {s : ByteArray} {X Y : List Tok} {p q : Ph} {d : Nat} (hz' : s.size ≤ 4000) (hx : IsSg X p d) (hy : IsSg Y q d) : ∃ r, IsSg (wEvery :: ⟨4, s, 0⟩ :: wIn :: (X ++ (wSat :: Y))) r (d + 1) := by
 refine ⟨phN 24 ⟨0, 0, ⟨#[]⟩⟩ s 0 0 0 ⟨#[]⟩ 2 (fun i => if i = 0 then p else q), by simp, show headE wEvery = true by decide +kernel, fun T a o R pb b c hs hf ho => ?_⟩
 have hz := hs.size (by simp)
 simp only [List.length_cons, List.length_append] at hz
 have s1 := hs.cons
 have s2 := s1.2.cons
 have s3 := s2.2.cons
 have s4 := s3.2.assoc
 have s5 := s3.2.tail.cons
 have l1 : a ≤ 300 := by omega
 have l2 : o ≤ 100 := by omega
 have l3 : o + 1 ≤ 200 := by omega
 have l4 : a + 1 ≤ 300 := by omega
 have l5 : a + 1 + 1 ≤ 300 := by omega
 have l6 : a + 1 + 1 + 1 + X.length ≤ 300 := by omega
 have e0 : seeM T ⟨a, o + 1, 0⟩ 0 = wEvery := see0.trans s1.1
 have e1 : seeM T ⟨a, o + 1, 0⟩ 1 = ⟨4, s, 0⟩ := see0.trans s2.1
 have e2 : seeM T ⟨a + 1, o + 1, 0⟩ 0 = ⟨4, s, 0⟩ := see0.trans s2.1
 have r1 := hx.run T _ (o + 1) _ pb b c s4 (by show folB 0 wSat = true; decide +kernel) (by omega)
 have r2 := hy.run T _ (o + 1) R pb b c s5.2 hf (by omega)
 have e : a + (wEvery :: ⟨4, s, 0⟩ :: wIn :: (X ++ (wSat :: Y)) : List Tok).length = a + 1 + 1 + 1 + X.length + 1 + Y.length := by
  simp only [List.length_cons, List.length_append]; omega
 rw [e]
 have k := quantified_is (pb := pb) (b := b) (c := c) (st := ⟨a, o + 1, 0⟩) (kd := 24) (us := s) (un := 0) (s2 := ⟨a + 1 + 1 + 1, o + 1, 0⟩) (s3 := ⟨a + 1 + 1 + 1 + X.length, o + 1, 0⟩) (s4 := ⟨a + 1 + 1 + 1 + X.length + 1, o + 1, 0⟩) hs.len l1 l4 e2 hz' l5 (want0 (by rw [s3.1]; exact eqT_self)) l6 (want0 (by rw [s5.1]; exact eqT_self)) r1 r2
 exact single_every (st := ⟨a, o, 0⟩) (s0 := ⟨a, o + 1, 0⟩) (s1 := ⟨a + 1 + 1 + 1 + X.length + 1 + Y.length, o + 1, 0⟩) hs.len l1 l1 l2 ⟨by simp, l3⟩ (ent0 (by omega)) e0 e1 (by decide) (by decide) (by decide) (by decide) (by decide) k
theorem sg_if {X Y Z : List Tok} {p q r : Ph} {d : Nat} (hx : IsLs X p d) (hy : IsSg Y q d) (hz' : IsSg Z r d) : ∃ t, IsSg (wIf :: mOp :: (X ++ (mCl :: wThen :: (Y ++ (wElse :: Z))))) t (d + 1) := by
 refine ⟨phN 7 ⟨0, 0, ⟨#[]⟩⟩ ⟨#[]⟩ 0 0 0 ⟨#[]⟩ 3 (fun i => if i = 0 then p else if i = 1 then q else r), by simp, show headE wIf = true by decide +kernel, fun T a o R pb b c hs hf ho => ?_⟩
 have hz := hs.size (by simp)
 simp only [List.length_cons, List.length_append] at hz
 have s1 := hs.cons
 have s2 := s1.2.cons
 have s3 := s2.2.assoc
 have s4 := s2.2.tail.cons
 have s5 := s4.2.cons
 have s6 := s5.2.assoc
 have s7 := s5.2.tail.cons
 have l1 : a ≤ 300 := by omega
 have l2 : o ≤ 100 := by omega
 have l3 : o + 1 ≤ 200 := by omega
 have l4 : a + 2 ≤ 300 := by omega
 have l5 : a + 1 + 1 + X.length ≤ 300 := by omega
 have l6 : a + 1 + 1 + X.length + 1 ≤ 300 := by omega
 have l7 : a + 1 + 1 + X.length + 1 + 1 + Y.length ≤ 300 := by omega
 have e0 : seeM T ⟨a, o + 1, 0⟩ 0 = wIf := see0.trans s1.1
 have e1 : seeM T ⟨a, o + 1, 0⟩ 1 = mOp := see0.trans s2.1
 have r1 := hx.run T _ (o + 1) _ pb b c s3 (by show folL mCl = true; decide +kernel) (by omega)
 have r2 := hy.run T _ (o + 1) _ pb b c s6 (by show folB 0 wElse = true; decide +kernel) (by omega)
 have r3 := hz'.run T _ (o + 1) R pb b c s7.2 hf (by omega)
 have e : a + (wIf :: mOp :: (X ++ (mCl :: wThen :: (Y ++ (wElse :: Z)))) : List Tok).length = a + 1 + 1 + X.length + 1 + 1 + Y.length + 1 + Z.length := by
  simp only [List.length_cons, List.length_append]; omega
 rw [e]
 have k := conditional_is (pb := pb) (b := b) (c := c) (st := ⟨a, o + 1, 0⟩) (s1 := ⟨a + 1 + 1 + X.length, o + 1, 0⟩) (s2 := ⟨a + 1 + 1 + X.length + 1, o + 1, 0⟩) (s3 := ⟨a + 1 + 1 + X.length + 1 + 1, o + 1, 0⟩) (s4 := ⟨a + 1 + 1 + X.length + 1 + 1 + Y.length, o + 1, 0⟩) (s5 := ⟨a + 1 + 1 + X.length + 1 + 1 + Y.length + 1, o + 1, 0⟩) hs.len l1 l4 l5 (want0 (by rw [s4.1]; exact eqT_self)) l6 (want0 (by rw [s5.1]; exact eqT_self)) l7 (want0 (by rw [s7.1]; exact eqT_self)) r1 r2 r3
 exact single_if (st := ⟨a, o, 0⟩) (s0 := ⟨a, o + 1, 0⟩) (s1 := ⟨a + 1 + 1 + X.length + 1 + 1 + Y.length + 1 + Z.length, o + 1, 0⟩) hs.len l1 l1 l2 ⟨by simp, l3⟩ (ent0 (by omega)) e0 e1 (by decide) (by decide) (by decide) k
theorem sg_forin {s : ByteArray} {X Y : List Tok} {p q : Ph} {d : Nat} (hz' : s.size ≤ 4000) (hx : IsSg X p d) (hy : IsSg Y q d) : ∃ r, IsSg (wFor :: ⟨4, s, 0⟩ :: wIn :: (X ++ (wRet :: Y))) r (d + 1) := by
 refine ⟨.mk 28 ⟨0, 0, ⟨#[]⟩⟩ ⟨#[]⟩ 0 0 0 ⟨#[]⟩ 1 (fun _ => q) 1 (fun _ => 1) (fun _ => s) (fun _ => ⟨#[]⟩) (fun _ => false) (fun _ => p), by simp, show headE wFor = true by decide +kernel, fun T a o R pb b c hs hf ho => ?_⟩
 have hz := hs.size (by simp)
 simp only [List.length_cons, List.length_append] at hz
 have s1 := hs.cons
 have s2 := s1.2.cons
 have s3 := s2.2.cons
 have s4 := s3.2.assoc
 have s5 := s3.2.tail.cons
 have l1 : a ≤ 300 := by omega
 have l2 : o ≤ 100 := by omega
 have l3 : o + 1 ≤ 200 := by omega
 have l4 : a + 1 ≤ 300 := by omega
 have l5 : a + 1 + 1 ≤ 300 := by omega
 have l6 : a + 1 + 1 + 1 + X.length ≤ 300 := by omega
 have e0 : seeM T ⟨a, o + 1, 0⟩ 0 = wFor := see0.trans s1.1
 have e1 : seeM T ⟨a, o + 1, 0⟩ 1 = ⟨4, s, 0⟩ := see0.trans s2.1
 have e2 : seeM T ⟨a + 1, o + 1, 0⟩ 0 = ⟨4, s, 0⟩ := see0.trans s2.1
 have e3 : seeM T ⟨a + 1 + 1, o + 1, 0⟩ 0 = wIn := see0.trans s3.1
 have e4 : seeM T ⟨a + 1 + 1 + 1 + X.length, o + 1, 0⟩ 0 = wRet := see0.trans s5.1
 have r1 := hx.run T _ (o + 1) _ pb b c s4 (by show folB 0 wRet = true; decide +kernel) (by omega)
 have r2 := hy.run T _ (o + 1) R pb b c s5.2 hf (by omega)
 have e : a + (wFor :: ⟨4, s, 0⟩ :: wIn :: (X ++ (wRet :: Y)) : List Tok).length = a + 1 + 1 + 1 + X.length + 1 + Y.length := by
  simp only [List.length_cons, List.length_append]; omega
 rw [e]
 have hfi : RunC pb b c T 111 ⟨a + 1, o + 1, 0⟩ ⟨a + 1 + 1 + 1 + X.length, o + 1, 0⟩ 1 s ⟨#[]⟩ false p :=
  forIn_plain (st := ⟨a + 1, o + 1, 0⟩) (s2 := ⟨a + 1 + 1 + 1, o + 1, 0⟩) (us := s) (un := 0) hs.len l4 e2 hz' l5 (by rw [e3]; decide) (want0 (by rw [s3.1]; exact eqT_self)) r1
 have hbi : RunB pb b c T 94 ⟨a, o + 1, 0⟩ ⟨a + 1 + 1 + 1 + X.length, o + 1, 0⟩ 1 (fun _ => 1) (fun _ => s) (fun _ => ⟨#[]⟩) (fun _ => false) (fun _ => p) :=
  bindings_is (n := 1) (ST := fun k => if k = 0 then ⟨a, o + 1, 0⟩ else ⟨a + 1 + 1 + 1 + X.length, o + 1, 0⟩) (FK := fun _ => true) hs.len (by decide) (fun k hk => by by_cases hk0 : k = 0 <;> simp [hk0] <;> omega)
   (fun k hk _ => by
    obtain rfl : k = 0 := by omega
    refine ⟨?_, ?_⟩
    · simp only [if_true]
      rw [e0]; exact eqT_self
    · exact hfi)
   (fun k hk h => absurd h (by decide))
   ⟨by simp only [Nat.one_ne_zero, if_false]; rw [e4]; decide, by simp only [Nat.one_ne_zero, if_false]; rw [e4]; decide⟩
 have k := flwor_plain (pb := pb) (b := b) (c := c) (st := ⟨a, o + 1, 0⟩) (s1 := ⟨a + 1 + 1 + 1 + X.length, o + 1, 0⟩) (s2 := ⟨a + 1 + 1 + 1 + X.length + 1, o + 1, 0⟩) hs.len l1 l6 hbi (by rw [e4]; decide) (by rw [e4]; decide) (want0 (by rw [s5.1]; exact eqT_self)) r2
 exact single_for (st := ⟨a, o, 0⟩) (s0 := ⟨a, o + 1, 0⟩) (s1 := ⟨a + 1 + 1 + 1 + X.length + 1 + Y.length, o + 1, 0⟩) hs.len l1 l1 l2 ⟨by simp, l3⟩ (ent0 (by omega)) e0 e1 (by decide) (by decide) k
theorem sg_let {s : ByteArray} {X Y : List Tok} {p q : Ph} {d : Nat} (hz' : s.size ≤ 4000) (hx : IsSg X p d) (hy : IsSg Y q d) : ∃ r, IsSg (wLet :: ⟨4, s, 0⟩ :: mBe :: (X ++ (wRet :: Y))) r (d + 1) := by
 refine ⟨.mk 28 ⟨0, 0, ⟨#[]⟩⟩ ⟨#[]⟩ 0 0 0 ⟨#[]⟩ 1 (fun _ => q) 1 (fun _ => 2) (fun _ => s) (fun _ => ⟨#[]⟩) (fun _ => false) (fun _ => p), by simp, show headE wLet = true by decide +kernel, fun T a o R pb b c hs hf ho => ?_⟩
 have hz := hs.size (by simp)
 simp only [List.length_cons, List.length_append] at hz
 have s1 := hs.cons
 have s2 := s1.2.cons
 have s3 := s2.2.cons
 have s4 := s3.2.assoc
 have s5 := s3.2.tail.cons
 have l1 : a ≤ 300 := by omega
 have l2 : o ≤ 100 := by omega
 have l3 : o + 1 ≤ 200 := by omega
 have l4 : a + 1 ≤ 300 := by omega
 have l5 : a + 1 + 1 ≤ 300 := by omega
 have l6 : a + 1 + 1 + 1 + X.length ≤ 300 := by omega
 have e0 : seeM T ⟨a, o + 1, 0⟩ 0 = wLet := see0.trans s1.1
 have e1 : seeM T ⟨a, o + 1, 0⟩ 1 = ⟨4, s, 0⟩ := see0.trans s2.1
 have e2 : seeM T ⟨a + 1, o + 1, 0⟩ 0 = ⟨4, s, 0⟩ := see0.trans s2.1
 have e4 : seeM T ⟨a + 1 + 1 + 1 + X.length, o + 1, 0⟩ 0 = wRet := see0.trans s5.1
 have r1 := hx.run T _ (o + 1) _ pb b c s4 (by show folB 0 wRet = true; decide +kernel) (by omega)
 have r2 := hy.run T _ (o + 1) R pb b c s5.2 hf (by omega)
 have e : a + (wLet :: ⟨4, s, 0⟩ :: mBe :: (X ++ (wRet :: Y)) : List Tok).length = a + 1 + 1 + 1 + X.length + 1 + Y.length := by
  simp only [List.length_cons, List.length_append]; omega
 rw [e]
 have hfi : RunC pb b c T 112 ⟨a + 1, o + 1, 0⟩ ⟨a + 1 + 1 + 1 + X.length, o + 1, 0⟩ 2 s ⟨#[]⟩ false p :=
  letBe_is (st := ⟨a + 1, o + 1, 0⟩) (s2 := ⟨a + 1 + 1 + 1, o + 1, 0⟩) (us := s) (un := 0) hs.len l4 e2 hz' l5 (want0 (by rw [s3.1]; exact eqT_self)) r1
 have hbi : RunB pb b c T 94 ⟨a, o + 1, 0⟩ ⟨a + 1 + 1 + 1 + X.length, o + 1, 0⟩ 1 (fun _ => 2) (fun _ => s) (fun _ => ⟨#[]⟩) (fun _ => false) (fun _ => p) :=
  bindings_is (n := 1) (ST := fun k => if k = 0 then ⟨a, o + 1, 0⟩ else ⟨a + 1 + 1 + 1 + X.length, o + 1, 0⟩) (FK := fun _ => false) hs.len (by decide) (fun k hk => by by_cases hk0 : k = 0 <;> simp [hk0] <;> omega)
   (fun k hk h => absurd h (by decide))
   (fun k hk _ => by
    obtain rfl : k = 0 := by omega
    refine ⟨⟨?_, ?_⟩, ?_⟩
    · simp only [if_true]
      rw [e0]; decide
    · simp only [if_true]
      rw [e0]; exact eqT_self
    · exact hfi)
   ⟨by simp only [Nat.one_ne_zero, if_false]; rw [e4]; decide, by simp only [Nat.one_ne_zero, if_false]; rw [e4]; decide⟩
 have k := flwor_plain (pb := pb) (b := b) (c := c) (st := ⟨a, o + 1, 0⟩) (s1 := ⟨a + 1 + 1 + 1 + X.length, o + 1, 0⟩) (s2 := ⟨a + 1 + 1 + 1 + X.length + 1, o + 1, 0⟩) hs.len l1 l6 hbi (by rw [e4]; decide) (by rw [e4]; decide) (want0 (by rw [s5.1]; exact eqT_self)) r2
 exact single_let (st := ⟨a, o, 0⟩) (s0 := ⟨a, o + 1, 0⟩) (s1 := ⟨a + 1 + 1 + 1 + X.length + 1 + Y.length, o + 1, 0⟩) hs.len l1 l1 l2 ⟨by simp, l3⟩ (ent0 (by omega)) e0 e1 (by decide) (by decide) (by decide) k
theorem sg_ord {s t : ByteArray} {X W K D Y : List Tok} {p w k q : Ph} {d : Nat} (hz1 : s.size ≤ 4000) (hz2 : t.size ≤ 4000) (hx : IsSg X p d) (hw : IsSg W w d) (hk : IsSg K k d) (hD : D = [] ∨ D = [wDown]) (hy : IsSg Y q d) : ∃ r, IsSg (wFor :: ⟨4, s, 0⟩ :: wAt :: ⟨4, t, 0⟩ :: wIn :: (X ++ (wWhere :: (W ++ (wOrder :: wBy :: (K ++ (D ++ (wRet :: Y)))))))) r (d + 1) := by
 refine ⟨.mk 28 ⟨0, 0, ⟨#[]⟩⟩ ⟨#[]⟩ 0 0 0 ⟨#[]⟩ 1 (fun _ => q) (1 + 2) (fun i => if i = 0 then 1 else if i = 1 then 3 else 4) (fun i => if i = 0 then s else ⟨#[]⟩) (fun i => if i = 0 then t else ⟨#[]⟩) (fun i => if i = 2 then !(D.isEmpty) else false) (fun i => if i = 0 then p else if i = 1 then w else k), by simp, show headE wFor = true by decide +kernel, fun T a o R pb b c hs hf ho => ?_⟩
 have hz := hs.size (by simp)
 simp only [List.length_cons, List.length_append] at hz
 have s1 := hs.cons
 have s2 := s1.2.cons
 have s3 := s2.2.cons
 have s4 := s3.2.cons
 have s5 := s4.2.cons
 have s6 := s5.2.assoc
 have s7 := s5.2.tail.cons
 have s8 := s7.2.assoc
 have s9 := s7.2.tail.cons
 have sa := s9.2.cons
 have sb := sa.2.assoc
 have sc := sa.2.tail
 have sd := sc.tail.cons
 have l1 : a ≤ 300 := by omega
 have l2 : o ≤ 100 := by omega
 have l3 : o + 1 ≤ 200 := by omega
 have l4 : a + 1 ≤ 300 := by omega
 have l5 : a + 1 + 1 ≤ 300 := by omega
 have l6 : a + 1 + 1 + 1 ≤ 300 := by omega
 have l7 : a + 1 + 1 + 1 + 1 ≤ 300 := by omega
 obtain ⟨z1, hz1'⟩ : ∃ z, z = a + 1 + 1 + 1 + 1 + 1 := ⟨_, rfl⟩
 rw [← hz1'] at s5 s6 s7 s8 s9 sa sb sc sd
 obtain ⟨z2, hz2'⟩ : ∃ z, z = z1 + X.length := ⟨_, rfl⟩
 rw [← hz2'] at s7 s8 s9 sa sb sc sd
 obtain ⟨z3, hz3'⟩ : ∃ z, z = z2 + 1 + W.length := ⟨_, rfl⟩
 rw [← hz3'] at s9 sa sb sc sd
 obtain ⟨z4, hz4'⟩ : ∃ z, z = z3 + 1 + 1 + K.length := ⟨_, rfl⟩
 rw [← hz4'] at sc sd
 have m1 : z2 ≤ 300 := by omega
 have m2 : z3 ≤ 300 := by omega
 have m3 : z3 + 1 ≤ 300 := by omega
 have m4 : z4 ≤ 300 := by omega
 have m5 : z4 + D.length ≤ 300 := by omega
 have e0 : seeM T ⟨a, o + 1, 0⟩ 0 = wFor := see0.trans s1.1
 have e1 : seeM T ⟨a, o + 1, 0⟩ 1 = ⟨4, s, 0⟩ := see0.trans s2.1
 have e2 : seeM T ⟨a + 1, o + 1, 0⟩ 0 = ⟨4, s, 0⟩ := see0.trans s2.1
 have e3 : seeM T ⟨a + 1 + 1, o + 1, 0⟩ 0 = wAt := see0.trans s3.1
 have e4 : seeM T ⟨a + 1 + 1 + 1, o + 1, 0⟩ 0 = ⟨4, t, 0⟩ := see0.trans s4.1
 have e5 : seeM T ⟨z2, o + 1, 0⟩ 0 = wWhere := see0.trans s7.1
 have e6 : seeM T ⟨z3, o + 1, 0⟩ 0 = wOrder := see0.trans s9.1
 have e7 : tkA T (z4 + D.length) = wRet := sd.1
 have r1 := hx.run T _ (o + 1) _ pb b c s6 (by show folB 0 wWhere = true; decide +kernel) (by omega)
 have r2 := hw.run T _ (o + 1) _ pb b c s8 (by show folB 0 wOrder = true; decide +kernel) (by omega)
 have r3 := hk.run T _ (o + 1) _ pb b c sb (by
  rcases hD with rfl | rfl
  · show folB 0 wRet = true; decide +kernel
  · show folB 0 wDown = true; decide +kernel) (by omega)
 have r4 := hy.run T _ (o + 1) R pb b c sd.2 hf (by omega)
 rw [← hz2'] at r1
 rw [← hz3'] at r2
 rw [← hz4'] at r3
 have e : a + (wFor :: ⟨4, s, 0⟩ :: wAt :: ⟨4, t, 0⟩ :: wIn :: (X ++ (wWhere :: (W ++ (wOrder :: wBy :: (K ++ (D ++ (wRet :: Y))))))) : List Tok).length = z4 + D.length + 1 + Y.length := by
  simp only [List.length_cons, List.length_append]; omega
 rw [e]
 have hfi : RunC pb b c T 111 ⟨a + 1, o + 1, 0⟩ ⟨z2, o + 1, 0⟩ 1 s t false p :=
  forIn_at (st := ⟨a + 1, o + 1, 0⟩) (s2 := ⟨z1, o + 1, 0⟩) (us := s) (un := 0) (vs := t) (vn := 0) hs.len l4 e2 hz1 l5 (by rw [e3]; decide) e4 hz2 l6 l7 (by rw [hz1']; exact want0 (by rw [s5.1]; exact eqT_self)) r1
 have hbi : RunB pb b c T 94 ⟨a, o + 1, 0⟩ ⟨z2, o + 1, 0⟩ 1 (fun i => if i = 0 then 1 else if i = 1 then 3 else 4) (fun i => if i = 0 then s else ⟨#[]⟩) (fun i => if i = 0 then t else ⟨#[]⟩) (fun i => if i = 2 then !(D.isEmpty) else false) (fun i => if i = 0 then p else if i = 1 then w else k) :=
  bindings_is (n := 1) (ST := fun k => if k = 0 then ⟨a, o + 1, 0⟩ else ⟨z2, o + 1, 0⟩) (FK := fun _ => true) hs.len (by decide) (fun k hk => by by_cases hk0 : k = 0 <;> simp [hk0] <;> omega)
   (fun k hk _ => by
    obtain rfl : k = 0 := by omega
    refine ⟨?_, ?_⟩
    · simp only [if_true]
      rw [e0]; exact eqT_self
    · exact hfi)
   (fun k hk h => absurd h (by decide))
   ⟨by simp only [Nat.one_ne_zero, if_false]; rw [e5]; decide, by simp only [Nat.one_ne_zero, if_false]; rw [e5]; decide⟩
 have hob : RunC pb b c T 95 ⟨z3 + 1, o + 1, 0⟩ ⟨z4 + D.length, o + 1, 0⟩ 4 ⟨#[]⟩ ⟨#[]⟩ (!(D.isEmpty)) k := by
  have w1 : wantM T ⟨z3 + 1, o + 1, 0⟩ wBy = ⟨z3 + 1 + 1, o + 1, 0⟩ := want0 (by rw [sa.1]; exact eqT_self)
  rcases hD with rfl | rfl
  · have e8 : seeM T ⟨z4, o + 1, 0⟩ 0 = wRet := see0.trans sc.cons.1
    exact orderBy_up (st := ⟨z3 + 1, o + 1, 0⟩) (s3 := ⟨z4, o + 1, 0⟩) hs.len m3 w1 m4 (by rw [e8]; decide) r3
  · have e8 : seeM T ⟨z4, o + 1, 0⟩ 0 = wDown := see0.trans sc.cons.1
    exact orderBy_down (st := ⟨z3 + 1, o + 1, 0⟩) (s3 := ⟨z4, o + 1, 0⟩) hs.len m3 w1 m4 (by rw [e8]; decide) r3
 have k := flwor_order (pb := pb) (b := b) (c := c) (n := 1) (st := ⟨a, o + 1, 0⟩) (s1 := ⟨z2, o + 1, 0⟩) (s2 := ⟨z3, o + 1, 0⟩) (s3 := ⟨z4 + D.length, o + 1, 0⟩) (s4 := ⟨z4 + D.length + 1, o + 1, 0⟩) hs.len l1 (by decide) m1 hbi (by rw [e5]; decide) r2 m2 (by rw [e6]; decide) hob m5 (want0 (by rw [e7]; exact eqT_self)) r4 ⟨rfl, rfl, rfl, rfl, rfl⟩ ⟨rfl, rfl, rfl, rfl, rfl⟩
 exact single_for (st := ⟨a, o, 0⟩) (s0 := ⟨a, o + 1, 0⟩) (s1 := ⟨z4 + D.length + 1 + Y.length, o + 1, 0⟩) hs.len l1 l1 l2 ⟨by simp, l3⟩ (ent0 (by omega)) e0 e1 (by decide) (by decide) k
end Go.Proofs.YtbnlekhjgkojlaaGreatDoor
