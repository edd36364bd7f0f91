import Derived.Test.YtbnlekhjgkojlaaGreatDoorDvE
import Derived.Test.YtbnlekhjgkojlaaGreatDoorQoAst
set_option linter.unusedVariables false
namespace Go.Proofs.YtbnlekhjgkojlaaGreatDoor
set_option maxRecDepth 100000
open Go.RowKit
theorem MdK.to {X : List UInt8} {K K' : List Tok} (h : MdK X K) (e : K = K') : MdK X K' := e ▸ h
theorem g_op {bd : Nat} {u : Tok} {X Y : List Tok} {p q : Ph} {d : Nat} (hb : bd < 8) (hu : opOk bd u = true) (hx : IsMin X p d) (hy : IsMin Y q d) : ∃ r, IsMin (mOp :: ((X ++ (u :: Y)) ++ [mCl])) r (d + 3) := by
 have k := bin_two hb ((min_bin hx).down (bd + 1) (by omega)) hu ((min_bin hy).down (bd + 1) (by omega))
 obtain ⟨r, h⟩ := prim_sgl (sg_bin (k.down 0 (by omega) (by omega)))
 obtain ⟨r, h⟩ := prim_min h
 exact ⟨r, h⟩
theorem g_cmp {u : Tok} {X Y : List Tok} {p q : Ph} {d : Nat} (hu : opOk 2 u = true) (hx : IsBin 8 X p d) (hy : IsBin 8 Y q d) : IsTru d (X ++ (u :: Y)) := tru_one (bin_two (by decide) (hx.down 3) hu (hy.down 3))
theorem g_set {bd : Nat} {u : Tok} {X : List Tok} {d : Nat} (h1 : 1 ≤ d) (hb : bd < 8) (hu : opOk bd u = true) (hx : IsPth d X) : IsPth (d + 3) (mOp :: ((X ++ (u :: [⟨5, ⟨#[47, 47]⟩, 0⟩, ⟨5, ⟨#[42]⟩, 0⟩])) ++ [mCl])) := by
 obtain ⟨p, hx⟩ := pth_bin hx
 obtain ⟨q, hy⟩ := pth_bin ((pbase_is (i := 2) (by decide)).more h1)
 have k := bin_two hb (hx.down (bd + 1) (by omega)) hu ((show IsBin 8 [⟨5, ⟨#[47, 47]⟩, 0⟩, ⟨5, ⟨#[42]⟩, 0⟩] q d from hy).down (bd + 1) (by omega))
 obtain ⟨r, h⟩ := prim_sgl (sg_bin (k.down 0 (by omega) (by omega)))
 exact prim_pth h
theorem g_num {n : Int} : ∃ p, IsMin [⟨2, ⟨#[]⟩, n⟩] p 1 := prim_min (prim_num n)
theorem g_dolS {s : ByteArray} (h : s.size ≤ 4000) : ∃ p, IsSg [⟨4, s, 0⟩] p 2 := prim_sg (prim_dol h)
theorem g_fn {s : ByteArray} {n : Int} {X : List Tok} {p : Ph} {d : Nat} (hn : nameG s = true) (h : IsSg X p d) (hd : 2 ≤ d) : ∃ q, IsSg (⟨1, s, 0⟩ :: mOp :: ((mOp :: ((X ++ (mCo :: ([⟨2, ⟨#[]⟩, 1⟩] ++ (⟨1, ⟨#[116, 111]⟩, 0⟩ :: [⟨2, ⟨#[]⟩, n⟩])))) ++ [mCl])) ++ [mCl])) q (d + 5) := by
 obtain ⟨p1, h1⟩ := prim_bin (prim_num 1)
 obtain ⟨p2, h2⟩ := prim_bin (prim_num n)
 have k := bin_two (bd := 3) (u := ⟨1, ⟨#[116, 111]⟩, 0⟩) (by decide) (h1.down 4) (by decide +kernel) (h2.down 4)
 have k2 := (sg_bin (k.down 0)).more hd
 obtain ⟨q, k3⟩ := prim_two h k2
 obtain ⟨q, k4⟩ := prim_sg k3
 obtain ⟨q, k5⟩ := prim_call1 hn k4
 obtain ⟨q, k6⟩ := prim_sg k5
 exact ⟨q, k6.more (by omega)⟩
theorem g_vars {s t : ByteArray} (hs : s.size ≤ 4000) (ht : t.size ≤ 4000) : ∃ p, IsSg (mOp :: (([⟨4, s, 0⟩] ++ (mCo :: [⟨4, t, 0⟩])) ++ [mCl])) p 5 := by
 obtain ⟨p, h1⟩ := g_dolS hs
 obtain ⟨q, h2⟩ := g_dolS ht
 obtain ⟨r, h⟩ := prim_two h1 h2
 exact prim_sg h
def Lv : PK → Nat → List Tok → Prop
 | .pth, _, K => IsPth 1 K
 | .flt, D, K => IsPth (1 + 9 * D) K
 | .nod, D, K => IsPth (4 + 9 * D) K
 | .txt, D, K => ∃ p, IsPrim K p (4 + 9 * D)
 | .num, D, K => ∃ p, IsMin K p (7 + 9 * D)
 | .tru, D, K => IsTru (3 + 9 * D) K
 | .que, D, K => ∃ p, IsSg K p (3 + 9 * D)
theorem up_prim {X : List Tok} {d e : Nat} (h : ∃ p, IsPrim X p d) (hd : d ≤ e := by omega) : ∃ p, IsPrim X p e := by
 obtain ⟨p, h⟩ := h
 exact ⟨p, h.more hd⟩
theorem up_min {X : List Tok} {d e : Nat} (h : ∃ p, IsMin X p d) (hd : d ≤ e := by omega) : ∃ p, IsMin X p e := by
 obtain ⟨p, h⟩ := h
 exact ⟨p, h.more hd⟩
theorem up_sg {X : List Tok} {d e : Nat} (h : ∃ p, IsSg X p d) (hd : d ≤ e := by omega) : ∃ p, IsSg X p e := by
 obtain ⟨p, h⟩ := h
 exact ⟨p, h.more hd⟩
theorem po_q0 {i : Nat} (hi : i < 5) : ∃ p, IsSg (q0K.getD i []) p 2 := by
 have h : i = 0 ∨ i = 1 ∨ i = 2 ∨ i = 3 ∨ i = 4 := by omega
 rcases h with rfl | rfl | rfl | rfl | rfl
 · exact prim_sg (prim_num 1)
 · exact pth_sg (pbase_is (i := 1) (by decide))
 · exact prim_sg (prim_quo (s := ⟨#[120]⟩) (by decide))
 · exact prim_sg (prim_call0 (s := ⟨#[116, 114, 117, 101]⟩) (by decide +kernel))
 · exact prim_sg prim_nil
theorem po_tru0 {s : ByteArray} {D : Nat} (h : nameG s = true) : IsTru (3 + 9 * D) [⟨1, s, 0⟩, mOp, mCl] := by
 obtain ⟨p, h⟩ := prim_bin (prim_call0 h)
 exact (tru_one (h.down 2)).more (by omega)
theorem bin8_tru {X : List Tok} {d e : Nat} (h : ∃ p, IsBin 8 X p d) (hd : d ≤ e := by omega) : IsTru e X := by
 obtain ⟨p, h⟩ := h
 exact (tru_one (h.down 2)).more hd
theorem po_der {k : PK} {dt : Bool} {d : Int} {s : ByteArray} (h : Po k dt d s) : ∃ K, MdK s.data.toList K ∧ Lv k d.toNat K := by
 induction h with
 | no_base hi => exact ⟨_, md_base hi, pbase_is hi⟩
 | @no_step dt d s i j hs hj hi ih =>
  obtain ⟨Ks, ms, is⟩ := ih
  obtain ⟨t, e, ht⟩ := psep_is hj
  obtain ⟨q, hq⟩ := pstep_is hi
  have m := md_sep_step ms hj hi
  refine ⟨Ks ++ (t :: stepK.getD i []), ?_, IsPth.grow is ht hq⟩
  rw [data_appQ, data_appQ]
  rw [e] at m
  exact m
 | no_flt hs ih =>
  obtain ⟨Ks, ms, is⟩ := ih
  exact ⟨Ks, ms, IsPth.more is (by omega)⟩
 | no_nod hs ih =>
  obtain ⟨Ks, ms, is⟩ := ih
  exact ⟨Ks, ms, IsPth.more is (by omega)⟩
 | qu_q0 hi => exact ⟨_, md_q0 hi, up_sg (po_q0 hi)⟩
 | tx_quoted hx lx => exact ⟨_, k_tx_quoted hx lx, up_prim ⟨_, prim_quo (by omega)⟩ (Nat.zero_le _)⟩
 | @tx_concat dt d x hx lx =>
  refine ⟨_, (k_tx_concat hx lx).to (K' := ⟨1, ⟨#[99, 111, 110, 99, 97, 116]⟩, 0⟩ :: mOp :: (((⟨1, ⟨#[115, 116, 114, 105, 110, 103]⟩, 0⟩ :: mOp :: ((baseK.getD 0 []) ++ [mCl])) ++ (mCo :: [⟨3, x, 0⟩])) ++ [mCl])) (by simp [mOp, mCl, mCo, baseK]), ?_⟩
  obtain ⟨p, h1⟩ := pth_sg (pbase_is (i := 0) (by decide))
  obtain ⟨p, h2⟩ := prim_call1 (s := ⟨#[115, 116, 114, 105, 110, 103]⟩) (by decide +kernel) h1
  obtain ⟨p, h3⟩ := prim_sg h2
  obtain ⟨q, h4⟩ := prim_sg (prim_quo (s := x) (by omega))
  exact up_prim (prim_call2 (by decide +kernel) h3 (h4.more (by omega)))
 | tx_name =>
  refine ⟨_, k_tx_name, ?_⟩
  obtain ⟨p, h⟩ := prim_sg prim_dot
  exact up_prim (prim_call1 (s := ⟨#[110, 97, 109, 101]⟩) (by decide +kernel) h)
 | @tx_substr dt d x i j hx lx hi hj =>
  refine ⟨_, (k_tx_substr hx lx hi hj).to (K' := ⟨1, ⟨#[115, 117, 98, 115, 116, 114, 105, 110, 103]⟩, 0⟩ :: mOp :: (([⟨3, x, 0⟩] ++ (mCo :: ([⟨2, ⟨#[]⟩, i⟩] ++ (mCo :: [⟨2, ⟨#[]⟩, j⟩])))) ++ [mCl])) (by simp [mOp, mCl, mCo]), ?_⟩
  obtain ⟨p, h1⟩ := prim_sg (prim_quo (s := x) (by omega))
  obtain ⟨q, h2⟩ := prim_sg (prim_num i)
  obtain ⟨r, h3⟩ := prim_sg (prim_num j)
  exact up_prim (prim_call3 (by decide +kernel) h1 h2 h3)
 | tx_string hd hs ih =>
  obtain ⟨Ks, ms, p, is⟩ := ih
  refine ⟨_, k_tx_string ms, ?_⟩
  exact up_prim (prim_call1 (s := ⟨#[115, 116, 114, 105, 110, 103]⟩) (by decide +kernel) (sg_min is))
 | nu_dec hi => exact ⟨_, k_nu_dec hi, up_min g_num⟩
 | nu_count hs ih =>
  obtain ⟨Ks, ms, is⟩ := ih
  refine ⟨_, k_nu_count ms, ?_⟩
  obtain ⟨p, h⟩ := pth_sg is
  obtain ⟨p, h⟩ := prim_call1 (s := ⟨#[99, 111, 117, 110, 116]⟩) (by decide +kernel) h
  exact up_min (prim_min h)
 | nu_pos => exact ⟨_, k_nu_pos, up_min (prim_min (prim_call0 (by decide +kernel)))⟩
 | nu_last => exact ⟨_, k_nu_last, up_min (prim_min (prim_call0 (by decide +kernel)))⟩
 | @nu_len dt d x hx lx =>
  refine ⟨_, (k_nu_len hx lx).to (K' := ⟨1, ⟨#[115, 116, 114, 105, 110, 103, 45, 108, 101, 110, 103, 116, 104]⟩, 0⟩ :: mOp :: ([⟨3, x, 0⟩] ++ [mCl])) (by simp [mOp, mCl]), ?_⟩
  obtain ⟨p, h⟩ := prim_sg (prim_quo (s := x) (by omega))
  obtain ⟨p, h⟩ := prim_call1 (s := ⟨#[115, 116, 114, 105, 110, 103, 45, 108, 101, 110, 103, 116, 104]⟩) (by decide +kernel) h
  exact up_min (prim_min h)
 | @nu_op0 dt d s u hd hs hu ihs ihu =>
  obtain ⟨Ks, ms, p, is⟩ := ihs
  obtain ⟨Ku, mu, q, iu⟩ := ihu
  exact ⟨_, (k_nu_op0 ms mu).to (K' := mOp :: ((Ks ++ (⟨5, ⟨#[43]⟩, 0⟩ :: Ku)) ++ [mCl])) (by simp [mOp, mCl]), up_min (g_op (bd := 4) (by decide) (by decide +kernel) is iu)⟩
 | @nu_op1 dt d s u hd hs hu ihs ihu =>
  obtain ⟨Ks, ms, p, is⟩ := ihs
  obtain ⟨Ku, mu, q, iu⟩ := ihu
  exact ⟨_, (k_nu_op1 ms mu).to (K' := mOp :: ((Ks ++ (⟨5, ⟨#[45]⟩, 0⟩ :: Ku)) ++ [mCl])) (by simp [mOp, mCl]), up_min (g_op (bd := 4) (by decide) (by decide +kernel) is iu)⟩
 | @nu_op2 dt d s u hd hs hu ihs ihu =>
  obtain ⟨Ks, ms, p, is⟩ := ihs
  obtain ⟨Ku, mu, q, iu⟩ := ihu
  exact ⟨_, (k_nu_op2 ms mu).to (K' := mOp :: ((Ks ++ (⟨5, ⟨#[42]⟩, 0⟩ :: Ku)) ++ [mCl])) (by simp [mOp, mCl]), up_min (g_op (bd := 5) (by decide) (by decide +kernel) is iu)⟩
 | @nu_op3 dt d s u hd hs hu ihs ihu =>
  obtain ⟨Ks, ms, p, is⟩ := ihs
  obtain ⟨Ku, mu, q, iu⟩ := ihu
  exact ⟨_, (k_nu_op3 ms mu).to (K' := mOp :: ((Ks ++ (⟨1, ⟨#[100, 105, 118]⟩, 0⟩ :: Ku)) ++ [mCl])) (by simp [mOp, mCl]), up_min (g_op (bd := 5) (by decide) (by decide +kernel) is iu)⟩
 | @nu_op4 dt d s u hd hs hu ihs ihu =>
  obtain ⟨Ks, ms, p, is⟩ := ihs
  obtain ⟨Ku, mu, q, iu⟩ := ihu
  exact ⟨_, (k_nu_op4 ms mu).to (K' := mOp :: ((Ks ++ (⟨1, ⟨#[109, 111, 100]⟩, 0⟩ :: Ku)) ++ [mCl])) (by simp [mOp, mCl]), up_min (g_op (bd := 5) (by decide) (by decide +kernel) is iu)⟩
 | nu_m3 =>
  refine ⟨_, k_nu_m3, ?_⟩
  obtain ⟨p, h⟩ := g_num (n := 3)
  exact up_min ⟨_, min_minus h⟩
 | @nu_sum dt d i j hi hj =>
  refine ⟨_, (k_nu_sum hi hj).to (K' := ⟨1, ⟨#[115, 117, 109]⟩, 0⟩ :: mOp :: ((mOp :: (([⟨2, ⟨#[]⟩, i⟩] ++ (mCo :: [⟨2, ⟨#[]⟩, j⟩])) ++ [mCl])) ++ [mCl])) (by simp [mOp, mCl, mCo]), ?_⟩
  obtain ⟨q, h2⟩ := prim_sg (prim_num i)
  obtain ⟨r, h3⟩ := prim_sg (prim_num j)
  obtain ⟨r, h⟩ := prim_two h2 h3
  obtain ⟨r, h⟩ := prim_sg h
  obtain ⟨r, h⟩ := prim_call1 (s := ⟨#[115, 117, 109]⟩) (by decide +kernel) h
  exact up_min (prim_min h)
 | nu_slen hs ih =>
  obtain ⟨Ks, ms, p, is⟩ := ih
  refine ⟨_, k_nu_slen ms, ?_⟩
  obtain ⟨p, h⟩ := prim_sg is
  obtain ⟨p, h⟩ := prim_call1 (s := ⟨#[115, 116, 114, 105, 110, 103, 45, 108, 101, 110, 103, 116, 104]⟩) (by decide +kernel) h
  exact up_min (prim_min h)
 | tr_true => exact ⟨_, k_tr_true, po_tru0 (by decide +kernel)⟩
 | tr_false => exact ⟨_, k_tr_false, po_tru0 (by decide +kernel)⟩
 | tr_ex =>
  refine ⟨_, k_tr_ex, ?_⟩
  obtain ⟨p, h⟩ := pth_sg (pbase_is (i := 1) (by decide))
  obtain ⟨p, h⟩ := prim_call1 (s := ⟨#[101, 120, 105, 115, 116, 115]⟩) (by decide +kernel) h
  exact bin8_tru (prim_bin h)
 | tr_lt =>
  refine ⟨_, k_tr_lt, ?_⟩
  obtain ⟨p1, h1⟩ := prim_bin (prim_num 1)
  obtain ⟨p2, h2⟩ := prim_bin (prim_num 2)
  exact (g_cmp (u := ⟨5, ⟨#[60]⟩, 0⟩) (by decide +kernel) h1 h2).more (by omega)
 | @tr_eq dt d s u hd hs hu ihs ihu =>
  obtain ⟨Ks, ms, is⟩ := ihs
  obtain ⟨Ku, mu, q, iu⟩ := ihu
  obtain ⟨p1, h1⟩ := pth_bin is
  obtain ⟨p2, h2⟩ := prim_bin iu
  exact ⟨_, (k_tr_eq ms mu).to (K' := Ks ++ (⟨5, ⟨#[61]⟩, 0⟩ :: Ku)) (by simp), (g_cmp (by decide +kernel) (h1.more (Nat.le_succ _)) h2).more (by omega)⟩
 | @tr_op0 dt d s u hd hs hu ihs ihu =>
  obtain ⟨Ks, ms, p, is⟩ := ihs
  obtain ⟨Ku, mu, q, iu⟩ := ihu
  exact ⟨_, (k_tr_op0 ms mu).to (K' := Ks ++ (⟨5, ⟨#[60]⟩, 0⟩ :: Ku)) (by simp), (g_cmp (by decide +kernel) (min_bin is) (min_bin iu)).more (by omega)⟩
 | @tr_op1 dt d s u hd hs hu ihs ihu =>
  obtain ⟨Ks, ms, p, is⟩ := ihs
  obtain ⟨Ku, mu, q, iu⟩ := ihu
  exact ⟨_, (k_tr_op1 ms mu).to (K' := Ks ++ (⟨5, ⟨#[60, 61]⟩, 0⟩ :: Ku)) (by simp), (g_cmp (by decide +kernel) (min_bin is) (min_bin iu)).more (by omega)⟩
 | @tr_op2 dt d s u hd hs hu ihs ihu =>
  obtain ⟨Ks, ms, p, is⟩ := ihs
  obtain ⟨Ku, mu, q, iu⟩ := ihu
  exact ⟨_, (k_tr_op2 ms mu).to (K' := Ks ++ (⟨5, ⟨#[62]⟩, 0⟩ :: Ku)) (by simp), (g_cmp (by decide +kernel) (min_bin is) (min_bin iu)).more (by omega)⟩
 | @tr_op3 dt d s u hd hs hu ihs ihu =>
  obtain ⟨Ks, ms, p, is⟩ := ihs
  obtain ⟨Ku, mu, q, iu⟩ := ihu
  exact ⟨_, (k_tr_op3 ms mu).to (K' := Ks ++ (⟨5, ⟨#[62, 61]⟩, 0⟩ :: Ku)) (by simp), (g_cmp (by decide +kernel) (min_bin is) (min_bin iu)).more (by omega)⟩
 | @tr_op4 dt d s u hd hs hu ihs ihu =>
  obtain ⟨Ks, ms, p, is⟩ := ihs
  obtain ⟨Ku, mu, q, iu⟩ := ihu
  exact ⟨_, (k_tr_op4 ms mu).to (K' := Ks ++ (⟨5, ⟨#[33, 61]⟩, 0⟩ :: Ku)) (by simp), (g_cmp (by decide +kernel) (min_bin is) (min_bin iu)).more (by omega)⟩
 | tr_empty hd hs ih =>
  obtain ⟨Ks, ms, is⟩ := ih
  refine ⟨_, k_tr_empty ms, ?_⟩
  obtain ⟨p, h⟩ := pth_sg is
  obtain ⟨p, h⟩ := prim_call1 (s := ⟨#[101, 109, 112, 116, 121]⟩) (by decide +kernel) h
  exact bin8_tru (prim_bin h)
 | @tr_not dt d s u hd hs hu ihs ihu =>
  obtain ⟨Ks, ms, is⟩ := ihs
  obtain ⟨Ku, mu, iu⟩ := ihu
  refine ⟨_, (k_tr_not ms mu).to (K' := (⟨1, ⟨#[110, 111, 116]⟩, 0⟩ :: mOp :: (Ks ++ [mCl])) ++ (wAnd :: Ku)) (by simp [mOp, mCl, wAnd]), ?_⟩
  obtain ⟨p, h⟩ := tru_sg is
  obtain ⟨p, h⟩ := prim_call1 (s := ⟨#[110, 111, 116]⟩) (by decide +kernel) h
  obtain ⟨p, h⟩ := prim_bin h
  exact (tru_and ((h.down 2).more (by omega)) (IsTru.more iu (by omega))).more (Nat.le_refl _)
 | @tr_some dt d s i hd hs hi ih =>
  obtain ⟨Ks, ms, is⟩ := ih
  refine ⟨_, (k_tr_some ms hi).to (K' := mOp :: ((wSome :: ⟨4, ⟨#[113]⟩, 0⟩ :: wIn :: (Ks ++ (wSat :: ([⟨4, ⟨#[113]⟩, 0⟩] ++ (⟨5, ⟨#[61]⟩, 0⟩ :: [⟨2, ⟨#[]⟩, i⟩]))))) ++ [mCl])) (by simp [mOp, mCl, wSome, wIn, wSat]), ?_⟩
  obtain ⟨p, h⟩ := pth_sg is
  obtain ⟨p1, h1⟩ := prim_bin (prim_dol (s := ⟨#[113]⟩) (by decide))
  obtain ⟨p2, h2⟩ := prim_bin (prim_num i)
  obtain ⟨p3, h3⟩ := tru_sg (g_cmp (u := ⟨5, ⟨#[61]⟩, 0⟩) (by decide +kernel) h1 h2)
  obtain ⟨p4, h4⟩ := sg_some (s := ⟨#[113]⟩) (by decide) h (h3.more (by omega))
  obtain ⟨p5, h5⟩ := prim_sgl h4
  exact bin8_tru (prim_bin h5)
 | @tr_cont dt d s x u hd hs hx lx hu ihs ihu =>
  obtain ⟨Ks, ms, p, is⟩ := ihs
  obtain ⟨Ku, mu, iu⟩ := ihu
  refine ⟨_, (k_tr_cont ms mu hx lx).to (K' := (⟨1, ⟨#[99, 111, 110, 116, 97, 105, 110, 115]⟩, 0⟩ :: mOp :: ((Ks ++ (mCo :: [⟨3, x, 0⟩])) ++ [mCl])) ++ (wOr :: Ku)) (by simp [mOp, mCl, mCo, wOr]), ?_⟩
  obtain ⟨p1, h1⟩ := prim_sg is
  obtain ⟨p2, h2⟩ := prim_sg (prim_quo (s := x) (by omega))
  obtain ⟨p3, h3⟩ := prim_call2 (s := ⟨#[99, 111, 110, 116, 97, 105, 110, 115]⟩) (by decide +kernel) h1 (h2.more (by omega))
  obtain ⟨p4, h4⟩ := prim_bin h3
  exact tru_or ((h4.down 2).more (by omega)) (IsTru.more iu (by omega))
 | @tr_every dt d s hd hs ih =>
  obtain ⟨Ks, ms, is⟩ := ih
  refine ⟨_, (k_tr_every ms).to (K' := mOp :: ((wEvery :: ⟨4, ⟨#[113]⟩, 0⟩ :: wIn :: (Ks ++ (wSat :: (⟨1, ⟨#[101, 120, 105, 115, 116, 115]⟩, 0⟩ :: mOp :: (([⟨4, ⟨#[113]⟩, 0⟩] ++ (⟨5, ⟨#[47]⟩, 0⟩ :: [⟨5, ⟨#[46, 46]⟩, 0⟩])) ++ [mCl]))))) ++ [mCl])) (by simp [mOp, mCl, wEvery, wIn, wSat]), ?_⟩
  obtain ⟨p, h⟩ := pth_sg is
  obtain ⟨p1, h1⟩ := pth_sg ((prim_pth (prim_dol (s := ⟨#[113]⟩) (by decide))).grow (.inl rfl) (st_plain prim_upx))
  obtain ⟨p2, h2⟩ := prim_call1 (s := ⟨#[101, 120, 105, 115, 116, 115]⟩) (by decide +kernel) h1
  obtain ⟨p3, h3⟩ := prim_sg h2
  obtain ⟨p4, h4⟩ := sg_every (s := ⟨#[113]⟩) (by decide) h (h3.more (by omega))
  obtain ⟨p5, h5⟩ := prim_sgl h4
  exact bin8_tru (prim_bin h5)
 | qu_nod hd hs ih =>
  obtain ⟨Ks, ms, is⟩ := ih
  exact ⟨Ks, ms, up_sg (pth_sg is)⟩
 | qu_num hd hs ih =>
  obtain ⟨Ks, ms, p, is⟩ := ih
  exact ⟨Ks, ms, up_sg ⟨_, sg_min is⟩⟩
 | qu_txt hd hs ih =>
  obtain ⟨Ks, ms, p, is⟩ := ih
  exact ⟨Ks, ms, up_sg (prim_sg is)⟩
 | qu_tru hd hs ih =>
  obtain ⟨Ks, ms, is⟩ := ih
  exact ⟨Ks, ms, up_sg (tru_sg is)⟩
 | @qu_seq dt d s u hd hs hu ihs ihu =>
  obtain ⟨Ks, ms, p, is⟩ := ihs
  obtain ⟨Ku, mu, q, iu⟩ := ihu
  refine ⟨_, (k_qu_seq ms mu).to (K' := mOp :: ((Ks ++ (mCo :: Ku)) ++ [mCl])) (by simp [mOp, mCl, mCo]), ?_⟩
  obtain ⟨r, h⟩ := prim_two is iu
  exact up_sg (prim_sg h)
 | @qu_if dt d s u y hd hs hu hy ihs ihu ihy =>
  obtain ⟨Ks, ms, is⟩ := ihs
  obtain ⟨Ku, mu, q, iu⟩ := ihu
  obtain ⟨Ky, my, r, iy⟩ := ihy
  refine ⟨_, (k_qu_if ms mu my).to (K' := mOp :: ((wIf :: mOp :: (Ks ++ (mCl :: wThen :: (Ku ++ (wElse :: Ky))))) ++ [mCl])) (by simp [mOp, mCl, wIf, wThen, wElse]), ?_⟩
  obtain ⟨p, h⟩ := tru_sg is
  obtain ⟨p, h⟩ := ls_sg h
  obtain ⟨p, h⟩ := sg_if h (iu.more (by omega)) (iy.more (by omega))
  obtain ⟨p, h⟩ := prim_sgl h
  exact up_sg (prim_sg h)
 | @qu_for dt d s u hd hs hu ihs ihu =>
  obtain ⟨Ks, ms, is⟩ := ihs
  obtain ⟨Ku, mu, q, iu⟩ := ihu
  refine ⟨_, (k_qu_for ms mu).to (K' := mOp :: ((wFor :: ⟨4, ⟨#[118]⟩, 0⟩ :: wIn :: (Ks ++ (wRet :: (mOp :: (([⟨4, ⟨#[118]⟩, 0⟩] ++ (mCo :: Ku)) ++ [mCl]))))) ++ [mCl])) (by simp [mOp, mCl, mCo, wFor, wIn, wRet]), ?_⟩
  obtain ⟨p1, h1⟩ := pth_sg is
  obtain ⟨p2, h2⟩ := g_dolS (s := ⟨#[118]⟩) (by decide)
  obtain ⟨p3, h3⟩ := prim_two (h2.more (by omega)) iu
  obtain ⟨p4, h4⟩ := prim_sg h3
  obtain ⟨p5, h5⟩ := sg_forin (s := ⟨#[118]⟩) (by decide) (h1.more (by omega)) h4
  obtain ⟨p6, h6⟩ := prim_sgl h5
  exact up_sg (prim_sg h6)
 | @qu_ord0 dt d s hd hs ih =>
  obtain ⟨Ks, ms, p, is⟩ := ih
  refine ⟨_, (k_qu_ord0 ms).to (K' := mOp :: ((wFor :: ⟨4, ⟨#[118]⟩, 0⟩ :: wAt :: ⟨4, ⟨#[105]⟩, 0⟩ :: wIn :: (Ks ++ (wWhere :: (([⟨4, ⟨#[105]⟩, 0⟩] ++ (⟨5, ⟨#[60]⟩, 0⟩ :: [⟨2, ⟨#[]⟩, 3⟩])) ++ (wOrder :: wBy :: ([⟨4, ⟨#[105]⟩, 0⟩] ++ ([] ++ (wRet :: (mOp :: (([⟨4, ⟨#[105]⟩, 0⟩] ++ (mCo :: [⟨4, ⟨#[118]⟩, 0⟩])) ++ [mCl])))))))))) ++ [mCl])) (by simp [mOp, mCl, mCo, wFor, wIn, wRet, wAt, wWhere, wOrder, wBy]), ?_⟩
  obtain ⟨p1, h1⟩ := prim_bin (prim_dol (s := ⟨#[105]⟩) (by decide))
  obtain ⟨p2, h2⟩ := prim_bin (prim_num 3)
  obtain ⟨p3, h3⟩ := tru_sg (g_cmp (u := ⟨5, ⟨#[60]⟩, 0⟩) (by decide +kernel) h1 h2)
  obtain ⟨p4, h4⟩ := g_dolS (s := ⟨#[105]⟩) (by decide)
  obtain ⟨p5, h5⟩ := g_vars (s := ⟨#[105]⟩) (t := ⟨#[118]⟩) (by decide) (by decide)
  obtain ⟨p6, h6⟩ := sg_ord (d := 5 + 9 * (d - 1).toNat) (s := ⟨#[118]⟩) (t := ⟨#[105]⟩) (by decide) (by decide) (is.more (by omega)) (h3.more (by omega)) (h4.more (by omega)) (.inl rfl) (h5.more (by omega))
  obtain ⟨p7, h7⟩ := prim_sgl h6
  exact up_sg (prim_sg h7)
 | @qu_ord1 dt d s hd hs ih =>
  obtain ⟨Ks, ms, p, is⟩ := ih
  refine ⟨_, (k_qu_ord1 ms).to (K' := mOp :: ((wFor :: ⟨4, ⟨#[118]⟩, 0⟩ :: wAt :: ⟨4, ⟨#[105]⟩, 0⟩ :: wIn :: (Ks ++ (wWhere :: (([⟨4, ⟨#[105]⟩, 0⟩] ++ (⟨5, ⟨#[60]⟩, 0⟩ :: [⟨2, ⟨#[]⟩, 3⟩])) ++ (wOrder :: wBy :: ([⟨4, ⟨#[105]⟩, 0⟩] ++ ([wDown] ++ (wRet :: (mOp :: (([⟨4, ⟨#[105]⟩, 0⟩] ++ (mCo :: [⟨4, ⟨#[118]⟩, 0⟩])) ++ [mCl])))))))))) ++ [mCl])) (by simp [mOp, mCl, mCo, wFor, wIn, wRet, wAt, wWhere, wOrder, wBy, wDown]), ?_⟩
  obtain ⟨p1, h1⟩ := prim_bin (prim_dol (s := ⟨#[105]⟩) (by decide))
  obtain ⟨p2, h2⟩ := prim_bin (prim_num 3)
  obtain ⟨p3, h3⟩ := tru_sg (g_cmp (u := ⟨5, ⟨#[60]⟩, 0⟩) (by decide +kernel) h1 h2)
  obtain ⟨p4, h4⟩ := g_dolS (s := ⟨#[105]⟩) (by decide)
  obtain ⟨p5, h5⟩ := g_vars (s := ⟨#[105]⟩) (t := ⟨#[118]⟩) (by decide) (by decide)
  obtain ⟨p6, h6⟩ := sg_ord (d := 5 + 9 * (d - 1).toNat) (s := ⟨#[118]⟩) (t := ⟨#[105]⟩) (by decide) (by decide) (is.more (by omega)) (h3.more (by omega)) (h4.more (by omega)) (.inr rfl) (h5.more (by omega))
  obtain ⟨p7, h7⟩ := prim_sgl h6
  exact up_sg (prim_sg h7)
 | @qu_let dt d s hd hs ih =>
  obtain ⟨Ks, ms, p, is⟩ := ih
  refine ⟨_, (k_qu_let ms).to (K' := mOp :: ((wLet :: ⟨4, ⟨#[119]⟩, 0⟩ :: mBe :: (Ks ++ (wRet :: (mOp :: (((⟨1, ⟨#[99, 111, 117, 110, 116]⟩, 0⟩ :: mOp :: ([⟨4, ⟨#[119]⟩, 0⟩] ++ [mCl])) ++ (mCo :: [⟨4, ⟨#[119]⟩, 0⟩])) ++ [mCl]))))) ++ [mCl])) (by simp [mOp, mCl, mCo, wLet, mBe, wRet]), ?_⟩
  obtain ⟨p1, h1⟩ := g_dolS (s := ⟨#[119]⟩) (by decide)
  obtain ⟨p2, h2⟩ := prim_call1 (s := ⟨#[99, 111, 117, 110, 116]⟩) (by decide +kernel) h1
  obtain ⟨p3, h3⟩ := prim_sg h2
  obtain ⟨p4, h4⟩ := prim_two h3 (h1.more (by omega))
  obtain ⟨p5, h5⟩ := prim_sg h4
  obtain ⟨p6, h6⟩ := sg_let (d := 7 + 9 * (d - 1).toNat) (s := ⟨#[119]⟩) (by decide) (is.more (by omega)) (h5.more (by omega))
  obtain ⟨p7, h7⟩ := prim_sgl h6
  exact up_sg (prim_sg h7)
 | @qu_elem dt d s u hd hs hu ihs ihu =>
  obtain ⟨Ks, ms, p, is⟩ := ihs
  obtain ⟨Ku, mu, q, iu⟩ := ihu
  refine ⟨_, (k_qu_elem ms mu).to (K' := ⟨1, ⟨#[101, 108, 101, 109, 101, 110, 116]⟩, 0⟩ :: ⟨1, ⟨#[101]⟩, 0⟩ :: ⟨5, ⟨#[123]⟩, 0⟩ :: (((⟨1, ⟨#[97, 116, 116, 114, 105, 98, 117, 116, 101]⟩, 0⟩ :: ⟨1, ⟨#[107]⟩, 0⟩ :: ⟨5, ⟨#[123]⟩, 0⟩ :: (Ks ++ [⟨5, ⟨#[125]⟩, 0⟩])) ++ (mCo :: Ku)) ++ [⟨5, ⟨#[125]⟩, 0⟩])) (by simp [mCo]), ?_⟩
  obtain ⟨p1, h1⟩ := prim_sg is
  obtain ⟨p2, h2⟩ := ls_sg h1
  obtain ⟨p3, h3⟩ := prim_attr (s := ⟨#[107]⟩) (by decide) h2
  obtain ⟨p4, h4⟩ := prim_sg h3
  obtain ⟨p5, h5⟩ := ls_two h4 (iu.more (by omega))
  obtain ⟨p6, h6⟩ := prim_elem (s := ⟨#[101]⟩) (by decide) h5
  exact up_sg (prim_sg h6)
 | @qu_fn0 dt d s i hd hs hi ih =>
  obtain ⟨Ks, ms, p, is⟩ := ih
  exact ⟨_, (k_qu_fn0 ms hi).to (K' := ⟨1, ⟨#[114, 101, 118, 101, 114, 115, 101]⟩, 0⟩ :: mOp :: ((mOp :: ((Ks ++ (mCo :: ([⟨2, ⟨#[]⟩, 1⟩] ++ (⟨1, ⟨#[116, 111]⟩, 0⟩ :: [⟨2, ⟨#[]⟩, i⟩])))) ++ [mCl])) ++ [mCl])) (by simp [mOp, mCl, mCo]), up_sg (g_fn (by decide +kernel) is (by omega))⟩
 | @qu_fn1 dt d s i hd hs hi ih =>
  obtain ⟨Ks, ms, p, is⟩ := ih
  exact ⟨_, (k_qu_fn1 ms hi).to (K' := ⟨1, ⟨#[100, 105, 115, 116, 105, 110, 99, 116, 45, 118, 97, 108, 117, 101, 115]⟩, 0⟩ :: mOp :: ((mOp :: ((Ks ++ (mCo :: ([⟨2, ⟨#[]⟩, 1⟩] ++ (⟨1, ⟨#[116, 111]⟩, 0⟩ :: [⟨2, ⟨#[]⟩, i⟩])))) ++ [mCl])) ++ [mCl])) (by simp [mOp, mCl, mCo]), up_sg (g_fn (by decide +kernel) is (by omega))⟩
 | @qu_fn2 dt d s i hd hs hi ih =>
  obtain ⟨Ks, ms, p, is⟩ := ih
  exact ⟨_, (k_qu_fn2 ms hi).to (K' := ⟨1, ⟨#[100, 97, 116, 97]⟩, 0⟩ :: mOp :: ((mOp :: ((Ks ++ (mCo :: ([⟨2, ⟨#[]⟩, 1⟩] ++ (⟨1, ⟨#[116, 111]⟩, 0⟩ :: [⟨2, ⟨#[]⟩, i⟩])))) ++ [mCl])) ++ [mCl])) (by simp [mOp, mCl, mCo]), up_sg (g_fn (by decide +kernel) is (by omega))⟩
 | @qu_text dt d s hd hs ih =>
  obtain ⟨Ks, ms, p, is⟩ := ih
  refine ⟨_, (k_qu_text ms).to (K' := (⟨1, ⟨#[116, 101, 120, 116]⟩, 0⟩ :: ⟨5, ⟨#[123]⟩, 0⟩ :: (Ks ++ [⟨5, ⟨#[125]⟩, 0⟩])) ++ (⟨5, ⟨#[47]⟩, 0⟩ :: [⟨5, ⟨#[46, 46]⟩, 0⟩])) (by simp), ?_⟩
  obtain ⟨p1, h1⟩ := ls_sg is
  obtain ⟨p2, h2⟩ := prim_text h1
  exact up_sg (pth_sg ((prim_pth h2).grow (.inl rfl) ((st_plain prim_upx).more (by omega))))
 | @no_filter dt d s u hd hs hu ihs ihu =>
  obtain ⟨Ks, ms, is⟩ := ihs
  obtain ⟨Ku, mu, q, iu⟩ := ihu
  refine ⟨_, (k_no_filter ms mu).to (K' := (mOp :: (Ks ++ [mCl])) ++ (⟨5, ⟨#[91]⟩, 0⟩ :: (Ku ++ [⟨5, ⟨#[93]⟩, 0⟩]))) (by simp [mOp, mCl]), ?_⟩
  obtain ⟨p1, h1⟩ := pth_sg is
  obtain ⟨p2, h2⟩ := prim_sgl h1
  obtain ⟨p3, h3⟩ := ls_sg iu
  exact (st_pth (st_filter (h2.more (by omega)) h3)).more (by omega)
 | @no_op0 dt d s hs ih =>
  obtain ⟨Ks, ms, is⟩ := ih
  refine ⟨_, (k_no_op0 ms).to (K' := mOp :: ((Ks ++ (⟨1, ⟨#[117, 110, 105, 111, 110]⟩, 0⟩ :: [⟨5, ⟨#[47, 47]⟩, 0⟩, ⟨5, ⟨#[42]⟩, 0⟩])) ++ [mCl])) (by simp [mOp, mCl]), ?_⟩
  have k := g_set (d := 1 + 9 * d.toNat) (bd := 6) (u := ⟨1, ⟨#[117, 110, 105, 111, 110]⟩, 0⟩) (X := Ks) (by omega) (by decide) (by decide +kernel) is
  exact k.more (by omega)
 | @no_op1 dt d s hs ih =>
  obtain ⟨Ks, ms, is⟩ := ih
  refine ⟨_, (k_no_op1 ms).to (K' := mOp :: ((Ks ++ (⟨1, ⟨#[105, 110, 116, 101, 114, 115, 101, 99, 116]⟩, 0⟩ :: [⟨5, ⟨#[47, 47]⟩, 0⟩, ⟨5, ⟨#[42]⟩, 0⟩])) ++ [mCl])) (by simp [mOp, mCl]), ?_⟩
  have k := g_set (d := 1 + 9 * d.toNat) (bd := 7) (u := ⟨1, ⟨#[105, 110, 116, 101, 114, 115, 101, 99, 116]⟩, 0⟩) (X := Ks) (by omega) (by decide) (by decide +kernel) is
  exact k.more (by omega)
 | @no_op2 dt d s hs ih =>
  obtain ⟨Ks, ms, is⟩ := ih
  refine ⟨_, (k_no_op2 ms).to (K' := mOp :: ((Ks ++ (⟨1, ⟨#[101, 120, 99, 101, 112, 116]⟩, 0⟩ :: [⟨5, ⟨#[47, 47]⟩, 0⟩, ⟨5, ⟨#[42]⟩, 0⟩])) ++ [mCl])) (by simp [mOp, mCl]), ?_⟩
  have k := g_set (d := 1 + 9 * d.toNat) (bd := 7) (u := ⟨1, ⟨#[101, 120, 99, 101, 112, 116]⟩, 0⟩) (X := Ks) (by omega) (by decide) (by decide +kernel) is
  exact k.more (by omega)
 | no_dot => exact ⟨_, k_no_dot, prim_pth prim_dot⟩
end Go.Proofs.YtbnlekhjgkojlaaGreatDoor
