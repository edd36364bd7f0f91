/-
  CONTRACTS: a look at expressions, one by one (core.checking's lookAtAll), as long as it is known what a look at each of them tells.
-/
import Derived.Test.YtkhlfdnlpimojaaDoorCkA
set_option linter.unusedVariables false
namespace Go.Proofs.YtkhlfdnlpimojaaDoor
set_option maxRecDepth 100000
open Go.RowKit Go.WideShapes

/-- the tables stay, whatever lies behind B -/
def TB (B : Nat) (w : World) : Prop := ∀ W, Below B w W → Tabs W
theorem TB.below {B : Nat} {w w' : World} (h : TB B w) (hb : Below B w w') : TB B w' := fun W hW => h W (hb.trans hW)
/-- what a look at an expression tells, and leaves -/
def LookOk (B : Nat) (x : Ex) (S : List ByteArray) : Prop :=
  ∀ (w : World) (cb tb sb l mk p b off : Nat), CkS w cb tb sb (cntS S) l mk p → x.At w B b off → B ≤ cb → B ≤ sb → B ≤ w.heap.size → TB B w → l ≤ p → mk ≤ p → p + nodesX x ≤ 4294967296 → S.length + 2 * nodesX x ≤ 4294967296 →
    Calls Tryd.prog 21 #[.pointer (some ⟨cb, 0, none⟩), .pointer (some ⟨b, off, none⟩)] w fun e w' => e = .returned (.int .i64 (exF x S)) ∧
      (∃ l' mk' p', CkS w' cb tb sb (cntS S) l' mk' p' ∧ (exF x S = 0 → l' = l + cntX loopB x ∧ mk' = mk + cntX makeB x ∧ p' = p + nodesX x)) ∧ Below B w w'
set_option maxHeartbeats 1600000 in
theorem lookAll_is (B : Nat) (S : List ByteArray) (A : Nat → Ex) (m cap : Nat) (sl : Option Addr) (w : World) (cb tb sb l mk p : Nat) (ih : ∀ i, i < m → LookOk B (A i) S) (hcap : m ≤ cap) (hcm : cap ≤ maxLen)
    (hsl : 0 < m → ∃ b' off', sl = some ⟨b', off', none⟩ ∧ b' < B ∧ ∀ i, i < m → (A i).At w B b' (off' + i * 11)) (hS : CkS w cb tb sb (cntS S) l mk p) (hcb : B ≤ cb) (hsb : B ≤ sb) (hBw : B ≤ w.heap.size) (hT : TB B w) (hl : l ≤ p) (hmk : mk ≤ p) (hp : p + sumTo (fun i => nodesX (A i)) m ≤ 4294967296) (hSl : S.length + 2 * sumTo (fun i => nodesX (A i)) m ≤ 4294967296) :
    Calls Tryd.prog 54 #[.pointer (some ⟨cb, 0, none⟩), .slice sl m cap] w fun e w' => e = .returned (.int .i64 (firstE (fun i => exF (A i) S) m)) ∧
      (∃ l' mk' p', CkS w' cb tb sb (cntS S) l' mk' p' ∧ (firstE (fun i => exF (A i) S) m = 0 → l' = l + sumTo (fun i => cntX loopB (A i)) m ∧ mk' = mk + sumTo (fun i => cntX makeB (A i)) m ∧ p' = p + sumTo (fun i => nodesX (A i)) m)) ∧ Below B w w' := by
  have HIH : Hid (∀ i, i < m → LookOk B (A i) S) := ih
  have HSL : Hid (0 < m → ∃ b' off', sl = some ⟨b', off', none⟩ ∧ b' < B ∧ ∀ i, i < m → (A i).At w B b' (off' + i * 11)) := hsl
  have HS : Hid (CkS w cb tb sb (cntS S) l mk p) := hS
  have HT : Hid (TB B w) := hT
  have HLP : Hid (∀ k, k ≤ m → l + sumTo (fun i => cntX loopB (A i)) k ≤ p + sumTo (fun i => nodesX (A i)) k ∧ mk + sumTo (fun i => cntX makeB (A i)) k ≤ p + sumTo (fun i => nodesX (A i)) k) := fun k _ => by
    have h1 := sumTo_le (f := fun i => cntX loopB (A i)) (g := fun i => nodesX (A i)) (fun i => cntX_le loopB (A i)) k
    have h2 := sumTo_le (f := fun i => cntX makeB (A i)) (g := fun i => nodesX (A i)) (fun i => cntX_le makeB (A i)) k
    constructor <;> omega
  unfold maxLen at hcm
  clear ih hsl hS hT
  go_enter Tryd.func54, Tryd.ntmps54
  go_wp2
  go_loopw [9] (fun q wr => ∃ k : Nat, k ≤ m ∧ q = .int .i64 k ∧ firstE (fun i => exF (A i) S) k = 0 ∧ CkS wr cb tb sb (cntS S) (l + sumTo (fun i => cntX loopB (A i)) k) (mk + sumTo (fun i => cntX makeB (A i)) k) (p + sumTo (fun i => nodesX (A i)) k) ∧ Below B w wr) (fun q _ => m - (intOf q).toNat)
  case atStart => exact ⟨0, Nat.zero_le _, rfl, rfl, HS.out, Below.refl _ _⟩
  case round =>
    obtain ⟨k, hk, rfl, hz, hck, hbr⟩ := hrel
    have HZ : Hid (firstE (fun i => exF (A i) S) k = 0) := hz
    have HB : Hid (Below B w wr) := hbr
    by_cases hlt : k < m
    · obtain ⟨b', off', rfl, hb', hA⟩ := HSL.out (by omega)
      have hkm : (k : Int) < (m : Int) := by omega
      have hmono := sumTo_part (fun i => nodesX (A i)) hlt
      have hlp := HLP.out k hk
      have CL : Hid (Calls Tryd.prog 21 #[.pointer (some ⟨cb, 0, none⟩), .pointer (some ⟨b', off' + k * 11, none⟩)] wr fun e w' => e = .returned (.int .i64 (exF (A k) S)) ∧
        (∃ l' mk' p', CkS w' cb tb sb (cntS S) l' mk' p' ∧ (exF (A k) S = 0 → l' = l + sumTo (fun i => cntX loopB (A i)) k + cntX loopB (A k) ∧ mk' = mk + sumTo (fun i => cntX makeB (A i)) k + cntX makeB (A k) ∧ p' = p + sumTo (fun i => nodesX (A i)) k + nodesX (A k))) ∧ Below B wr w') :=
        HIH.out k hlt wr cb tb sb _ _ _ b' (off' + k * 11) hck ((hA k hlt).below hbr) hcb hsb (Nat.le_trans hBw hbr.size) (HT.out.below hbr) hlp.1 hlp.2 (by omega) (by omega)
      have hbB : b' < wr.heap.size := Nat.lt_of_lt_of_le hb' (Nat.le_trans hBw hbr.size)
      have HSU : Hid (firstE (fun i => exF (A i) S) (k + 1) = if firstE (fun i => exF (A i) S) k = 0 then exF (A k) S else firstE (fun i => exF (A i) S) k) := firstE_succ _ k
      have HAT : Hid (exF (A k) S ≠ 0 → firstE (fun i => exF (A i) S) m = exF (A k) S) := fun h => firstE_at hlt HZ.out h
      clear hck hbr hz hA hmono hlp
      by_cases he : exF (A k) S = 0
      · rw [he] at CL
        go_wp2_with (go_at_call 21; refine CL.out.mono ?_; rintro e w1 ⟨rfl, ⟨l1, m1, p1, hc1, he1⟩, hb1⟩; obtain ⟨q1, q2, q3⟩ := he1 rfl; subst q1 q2 q3; have HC1 : Hid (CkS w1 cb tb sb (cntS S) (l + sumTo (fun i => cntX loopB (A i)) k + cntX loopB (A k)) (mk + sumTo (fun i => cntX makeB (A i)) k + cntX makeB (A k)) (p + sumTo (fun i => nodesX (A i)) k + nodesX (A k))) := hc1; have HB1 : Hid (Below B wr w1) := hb1; clear hc1 hb1 he1)
        go_roundw
        case rel => exact ⟨k + 1, by omega, by go_num, by rw [HSU.out, if_pos HZ.out]; exact he, by simp only [sumTo, ← Nat.add_assoc]; exact HC1.out, HB.out.trans HB1.out⟩
        case measure => simp [intOf]; omega
      · generalize exF (A k) S = R at *
        have he2 : (R == 0) = false := by simpa using he
        have he3 : (R != 0) = true := by simpa using he
        go_wp2_with (go_at_call 21; refine CL.out.mono ?_; rintro e w1 ⟨rfl, ⟨l1, m1, p1, hc1, he1⟩, hb1⟩; have HC1 : Hid (CkS w1 cb tb sb (cntS S) l1 m1 p1) := hc1; have HB1 : Hid (Below B wr w1) := hb1; clear hc1 hb1 he1)
        go_ret
        exact ⟨ret_int (HAT.out he).symm, ⟨l1, m1, p1, HC1.out, fun h => absurd ((HAT.out he).symm.trans h) he⟩, HB.out.trans HB1.out⟩
    · have e : k = m := by omega
      subst e
      have HC : Hid (CkS wr cb tb sb (cntS S) (l + sumTo (fun i => cntX loopB (A i)) k) (mk + sumTo (fun i => cntX makeB (A i)) k) (p + sumTo (fun i => nodesX (A i)) k)) := hck
      clear hck hbr
      go_wp2
      go_ret
      exact ⟨ret_int HZ.out.symm, ⟨_, _, _, HC.out, fun _ => ⟨rfl, rfl, rfl⟩⟩, HB.out⟩
end Go.Proofs.YtkhlfdnlpimojaaDoor
