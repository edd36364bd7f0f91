import Derived.Test.YtbnlekhjgkojlaaGreatDoorDvD
import Derived.Test.YtbnlekhjgkojlaaGreatDoorQoTks
set_option linter.unusedVariables false
namespace Go.Proofs.YtbnlekhjgkojlaaGreatDoor
set_option maxRecDepth 100000
open Go.RowKit
theorem IsMin.more {X : List Tok} {p : Ph} {d e : Nat} (h : IsMin X p d) (hd : d ≤ e) : IsMin X p e := ⟨h.ne, h.head, h.run.more hd⟩
theorem Stp.more {d e : Nat} {L : List J} (h : Stp d L) (hd : d ≤ e) : Stp e L := fun x hx => ⟨(h x hx).1, (h x hx).2.more hd⟩
theorem IsPth.more {d e : Nat} {X : List Tok} (h : IsPth d X) (hd : d ≤ e) : IsPth e X := by
 cases h with
 | step h hL => exact .step (h.more hd) (hL.more hd)
 | dos hL => exact .dos (hL.more hd)
 | root h hL => exact .root (h.more hd) (hL.more hd)
theorem pth_sg {d : Nat} {X : List Tok} (h : IsPth d X) : ∃ p, IsSg X p (d + 1) := by
 obtain ⟨p, h⟩ := pth_min h
 exact ⟨p, sg_min h⟩
theorem prim_sg {X : List Tok} {p : Ph} {d : Nat} (h : IsPrim X p d) : ∃ q, IsSg X q (d + 2) := pth_sg (prim_pth h)
theorem prim_min {X : List Tok} {p : Ph} {d : Nat} (h : IsPrim X p d) : ∃ q, IsMin X q (d + 1) := pth_min (prim_pth h)
theorem prim_bin {X : List Tok} {p : Ph} {d : Nat} (h : IsPrim X p d) : ∃ q, IsBin 8 X q (d + 1) := by
 obtain ⟨q, h⟩ := prim_min h
 exact ⟨q, min_bin h⟩
theorem pth_bin {X : List Tok} {d : Nat} (h : IsPth d X) : ∃ q, IsBin 8 X q d := by
 obtain ⟨q, h⟩ := pth_min h
 exact ⟨q, min_bin h⟩
theorem prim_sgl {X : List Tok} {p : Ph} {d : Nat} (h : IsSg X p d) : ∃ q, IsPrim (mOp :: (X ++ [mCl])) q (d + 1) := by
 obtain ⟨q, h⟩ := ls_sg h
 exact ⟨q, prim_par h⟩
theorem ls_two {X Y : List Tok} {p q : Ph} {d : Nat} (hx : IsSg X p d) (hy : IsSg Y q d) : ∃ r, IsLs (X ++ (mCo :: Y)) r (d + 1) := by
 have k := ls_sgs hx (L := [(mCo, Y, q)]) (fun e he => by rw [List.mem_singleton.1 he]; exact ⟨rfl, hy⟩)
 simpa [jt] using k
theorem prim_two {X Y : List Tok} {p q : Ph} {d : Nat} (hx : IsSg X p d) (hy : IsSg Y q d) : ∃ r, IsPrim (mOp :: ((X ++ (mCo :: Y)) ++ [mCl])) r (d + 1) := by
 obtain ⟨q, h⟩ := ls_two hx hy
 exact ⟨q, prim_par h⟩
theorem prim_call2 {s : ByteArray} {X Y : List Tok} {p q : Ph} {d : Nat} (h : nameG s = true) (hx : IsSg X p d) (hy : IsSg Y q d) : ∃ r, IsPrim (⟨1, s, 0⟩ :: mOp :: ((X ++ (mCo :: Y)) ++ [mCl])) r d := by
 have k := prim_calln h hx (L := [(mCo, Y, q)]) (fun e he => by rw [List.mem_singleton.1 he]; exact ⟨rfl, hy⟩)
 simpa [jt, mOp, mCl] using k
theorem prim_call3 {s : ByteArray} {X Y Z : List Tok} {p q r : Ph} {d : Nat} (h : nameG s = true) (hx : IsSg X p d) (hy : IsSg Y q d) (hz : IsSg Z r d) : ∃ r, IsPrim (⟨1, s, 0⟩ :: mOp :: ((X ++ (mCo :: (Y ++ (mCo :: Z)))) ++ [mCl])) r d := by
 have k := prim_calln h hx (L := [(mCo, Y, q), (mCo, Z, r)]) (fun e he => by
  rcases List.mem_cons.1 he with he | he
  · rw [he]; exact ⟨rfl, hy⟩
  · rw [List.mem_singleton.1 he]; exact ⟨rfl, hz⟩)
 simpa [jt, mOp, mCl] using k
def Ands (d : Nat) (L : List J) : Prop := ∀ e ∈ L, opOk 1 e.1 = true ∧ IsBin 2 e.2.1 e.2.2 d
def Ors (d : Nat) (L : List J) : Prop := ∀ e ∈ L, opOk 0 e.1 = true ∧ IsBin 1 e.2.1 e.2.2 d
inductive IsTru (d : Nat) : List Tok → Prop
 | mk {X : List Tok} {p : Ph} {L M : List J} (h : IsBin 2 X p d) (hL : Ands d L) (hM : Ors d M) : IsTru d ((X ++ jt L) ++ jt M)
def wAnd : Tok := ⟨1, ⟨#[97, 110, 100]⟩, 0⟩
def wOr : Tok := ⟨1, ⟨#[111, 114]⟩, 0⟩
theorem tru_one {d : Nat} {X : List Tok} {p : Ph} (h : IsBin 2 X p d) : IsTru d X := by
 have k := IsTru.mk (L := []) (M := []) h (fun e he => absurd he (by simp)) (fun e he => absurd he (by simp))
 simpa [jt] using k
theorem tru_and {d : Nat} {X Y : List Tok} {p : Ph} (h : IsBin 2 Y p d) (hx : IsTru d X) : IsTru d (Y ++ (wAnd :: X)) := by
 cases hx with
 | @mk X q L M hq hL hM =>
  have k := IsTru.mk (L := (wAnd, X, q) :: L) (M := M) h (fun e he => by
   rcases List.mem_cons.1 he with he | he
   · rw [he]; exact ⟨show opOk 1 wAnd = true by decide +kernel, hq⟩
   · exact hL e he) hM
  simpa [jt, List.append_assoc] using k
theorem tru_or {d : Nat} {X Y : List Tok} {p : Ph} (h : IsBin 2 Y p d) (hx : IsTru d X) : IsTru d (Y ++ (wOr :: X)) := by
 cases hx with
 | @mk X q L M hq hL hM =>
  have hb := bin_chain (L := L) (bd := 1) (by decide) (by decide) (by decide) hq hL
  have k := IsTru.mk (L := []) (M := (wOr, X ++ jt L, _) :: M) h (fun e he => absurd he (by simp)) (fun e he => by
   rcases List.mem_cons.1 he with he | he
   · rw [he]; exact ⟨show opOk 0 wOr = true by decide +kernel, hb⟩
   · exact hM e he)
  simpa [jt, List.append_assoc] using k
theorem tru_bin {d : Nat} {X : List Tok} (h : IsTru d X) : ∃ p, IsBin 0 X p d := by
 cases h with
 | @mk X q L M hq hL hM =>
  have hb := bin_chain (L := L) (bd := 1) (by decide) (by decide) (by decide) hq hL
  exact ⟨_, bin_chain (L := M) (bd := 0) (by decide) (by decide) (by decide) hb hM⟩
theorem tru_sg {d : Nat} {X : List Tok} (h : IsTru d X) : ∃ p, IsSg X p (d + 1) := by
 obtain ⟨p, h⟩ := tru_bin h
 exact ⟨p, sg_bin h⟩
theorem IsTru.more {d e : Nat} {X : List Tok} (h : IsTru d X) (hd : d ≤ e) : IsTru e X := by
 cases h with
 | mk h hL hM => exact .mk (h.more hd) (fun x hx => ⟨(hL x hx).1, (hL x hx).2.more hd⟩) (fun x hx => ⟨(hM x hx).1, (hM x hx).2.more hd⟩)
theorem pi_a : nameG ⟨#[97]⟩ = true := by decide +kernel
theorem pi_b : nameG ⟨#[98]⟩ = true := by decide +kernel
theorem pi_c : nameG ⟨#[99]⟩ = true := by decide +kernel
theorem pi_k : nameG ⟨#[107]⟩ = true := by decide +kernel
theorem pi_m : nameG ⟨#[109]⟩ = true := by decide +kernel
theorem pi_r : nameG ⟨#[114]⟩ = true := by decide +kernel
theorem st_of {X : List Tok} {p : Ph} (h : IsPrim X p 0) : ∃ q, IsStep X q 1 := ⟨p, st_plain h⟩
theorem t_node : IsTest [⟨1, ⟨#[110, 111, 100, 101]⟩, 0⟩, mOp, mCl] (ktG ⟨#[110, 111, 100, 101]⟩) ⟨#[]⟩ := t_kind rfl (by decide +kernel) (by decide)
theorem pstep_is {i : Nat} (hi : i < 18) : ∃ q, IsStep (stepK.getD i []) q 1 := by
 have h : i = 0 ∨ i = 1 ∨ i = 2 ∨ i = 3 ∨ i = 4 ∨ i = 5 ∨ i = 6 ∨ i = 7 ∨ i = 8 ∨ i = 9 ∨ i = 10 ∨ i = 11 ∨ i = 12 ∨ i = 13 ∨ i = 14 ∨ i = 15 ∨ i = 16 ∨ i = 17 := by omega
 rcases h with rfl | rfl | rfl | rfl | rfl | rfl | rfl | rfl | rfl | rfl | rfl | rfl | rfl | rfl | rfl | rfl | rfl | rfl
 · exact st_of (prim_name pi_a)
 · exact st_of (prim_name pi_b)
 · exact st_of prim_star
 · exact st_of (prim_at (t_name pi_k))
 · exact st_of (prim_at (t_name pi_m))
 · exact st_of prim_upx
 · exact st_of (prim_kind (s := ⟨#[116, 101, 120, 116]⟩) rfl (by decide +kernel) (by decide) (by decide +kernel) (by decide +kernel))
 · exact st_of (prim_kind (s := ⟨#[110, 111, 100, 101]⟩) rfl (by decide +kernel) (by decide) (by decide +kernel) (by decide +kernel))
 · exact st_of (prim_axis (s := ⟨#[100, 101, 115, 99, 101, 110, 100, 97, 110, 116]⟩) (by decide +kernel) rfl (by decide +kernel) (t_name pi_a))
 · exact st_of (prim_axis (s := ⟨#[97, 110, 99, 101, 115, 116, 111, 114]⟩) (by decide +kernel) rfl (by decide +kernel) t_star)
 · exact st_of (prim_axis (s := ⟨#[102, 111, 108, 108, 111, 119, 105, 110, 103]⟩) (by decide +kernel) rfl (by decide +kernel) (t_name pi_b))
 · exact st_of (prim_axis (s := ⟨#[112, 114, 101, 99, 101, 100, 105, 110, 103]⟩) (by decide +kernel) rfl (by decide +kernel) t_star)
 · exact st_of (prim_axis (s := ⟨#[102, 111, 108, 108, 111, 119, 105, 110, 103, 45, 115, 105, 98, 108, 105, 110, 103]⟩) (by decide +kernel) rfl (by decide +kernel) t_star)
 · exact st_of (prim_axis (s := ⟨#[112, 114, 101, 99, 101, 100, 105, 110, 103, 45, 115, 105, 98, 108, 105, 110, 103]⟩) (by decide +kernel) rfl (by decide +kernel) t_node)
 · exact st_of (prim_axis (s := ⟨#[115, 101, 108, 102]⟩) (by decide +kernel) rfl (by decide +kernel) (t_name pi_c))
 · exact st_of (prim_axis (s := ⟨#[100, 101, 115, 99, 101, 110, 100, 97, 110, 116, 45, 111, 114, 45, 115, 101, 108, 102]⟩) (by decide +kernel) rfl (by decide +kernel) t_node)
 · exact st_of (prim_kind (s := ⟨#[99, 111, 109, 109, 101, 110, 116]⟩) rfl (by decide +kernel) (by decide) (by decide +kernel) (by decide +kernel))
 · exact st_of (prim_name pi_c)
theorem psep_is {j : Nat} (hj : j < 2) : ∃ t : Tok, sepK.getD j [] = [t] ∧ (t = ⟨5, ⟨#[47]⟩, 0⟩ ∨ t = ⟨5, ⟨#[47, 47]⟩, 0⟩) := by
 have h : j = 0 ∨ j = 1 := by omega
 rcases h with rfl | rfl
 · exact ⟨_, rfl, .inl rfl⟩
 · exact ⟨_, rfl, .inr rfl⟩
theorem pth_dos {X : List Tok} {p : Ph} {d : Nat} (h : IsStep X p d) : IsPth d (⟨5, ⟨#[47, 47]⟩, 0⟩ :: X) := by
 have k := IsPth.dos (Y := X) (q := p) (L := []) (d := d) (fun e he => by rw [List.mem_singleton.1 he]; exact ⟨.inr rfl, h⟩)
 simpa [jt] using k
theorem pth_root {X : List Tok} {p : Ph} {d : Nat} (h : IsStep X p d) : IsPth d (⟨5, ⟨#[47]⟩, 0⟩ :: X) := by
 have k := IsPth.root (L := []) h (fun e he => absurd he (by simp))
 simpa [jt] using k
theorem pbase_is {i : Nat} (hi : i < 6) : IsPth 1 (baseK.getD i []) := by
 have h : i = 0 ∨ i = 1 ∨ i = 2 ∨ i = 3 ∨ i = 4 ∨ i = 5 := by omega
 rcases h with rfl | rfl | rfl | rfl | rfl | rfl
 · exact pth_root (st_plain (prim_name pi_r))
 · exact pth_dos (st_plain (prim_name pi_a))
 · exact pth_dos (st_plain prim_star)
 · exact (pth_root (st_plain (prim_name pi_r))).grow (.inl rfl) (st_plain prim_star)
 · exact pth_dos (st_plain (prim_at (t_name pi_k)))
 · exact pth_dos (st_plain (prim_kind (s := ⟨#[116, 101, 120, 116]⟩) rfl (by decide +kernel) (by decide) (by decide +kernel) (by decide +kernel)))
end Go.Proofs.YtbnlekhjgkojlaaGreatDoor
