/-
  CONTRACTS: names come into scope, and leave it (core.scope's enter and leave); what is counted.
-/
import Derived.Test.YtcbpjgnbdpfiiaaGreatDoorCkSmall
set_option linter.unusedVariables false
namespace Go.Proofs.YtcbpjgnbdpfiiaaGreatDoor
set_option maxRecDepth 100000
open Go.RowKit Go.WideShapes

set_option maxHeartbeats 800000 in
theorem enter_is (M : Nat) (N : ByteArray → Nat) (L : List ByteArray) (v : Value) (w : World) (hS : SMap w M N) (hv : TxtsL w v L) (hL : ∀ x ∈ L, x.size ≤ maxLen) (hN : ∀ y, N y + L.length ≤ 4611686018427387904) :
    Calls Tryz.prog 86 #[.map (some M), v] w fun e w' => e = .returned (.tuple #[]) ∧ SMap w' M (fun y => N y + cntE L y) ∧ TurnedM w w' M := by
  obtain ⟨b, off, cap, rfl, hlc, hcm, hbw, hcells⟩ := hv
  have hbM : 0 < L.length → b ≠ M := fun h0 e => by
    obtain ⟨V, ⟨es, clock, h1, _⟩, _⟩ := hS
    have := hcells 0 h0
    subst e
    simp [World.cell?, h1] at this
  have HC : Hid (∀ i (h : i < L.length), w.cell? ⟨b, off + i, none⟩ = some (.string L[i])) := hcells
  have HS : Hid (SMap w M N) := hS
  have HL : Hid (∀ x ∈ L, x.size ≤ maxLen) := hL
  have HN : Hid (∀ y, N y + L.length ≤ 4611686018427387904) := hN
  unfold maxLen at hcm
  clear hcells hS hL hN
  go_enter Tryz.func86, Tryz.ntmps86
  go_wp2
  go_loopw [8] (fun i wr => ∃ k : Nat, k ≤ L.length ∧ i = .int .i64 k ∧ SMap wr M (fun y => N y + cntE (L.take k) y) ∧ TurnedM w wr M) (fun i _ => L.length - (intOf i).toNat)
  case atStart => exact ⟨0, Nat.zero_le _, rfl, HS.out.congr (fun y => by simp [cntE]), TurnedM.refl _ _⟩
  case round =>
    obtain ⟨k, hk, rfl, hsm, htm⟩ := hrel
    by_cases hlt : k < L.length
    · have hii : (k : Int) < (L.length : Int) := by omega
      have hc : wr.cell? ⟨b, off + k, none⟩ = some (.string L[k]) := by
        rw [← HC.out k hlt]; unfold World.cell?; rw [htm.2.1 b (hbM (by omega))]
      have hs := HL.out L[k] (List.getElem_mem _)
      have hn1 := HN.out L[k]
      have hn2 := cntE_le (L.take k) L[k]
      have hn3 : (L.take k).length ≤ L.length := by first | (simp; done) | (simp; omega)
      have HTM : Hid (TurnedM w wr M) := htm
      have HCT : Hid (∀ y, cntE (L.take (k + 1)) y = cntE (L.take k) y + (if hitB y L[k] = true then 1 else 0)) := fun y => cntE_take hlt y
      obtain ⟨V, hV, hVN⟩ := hsm
      have HV : Hid (VMap wr M V) := hV
      have HVN : Hid (∀ x, (V x).getD (.int .i64 0) = .int .i64 ((N x + cntE (L.take k) x : Nat) : Int)) := hVN
      generalize L[k] = x at *
      clear htm hV hVN
      by_cases h0 : x.size = 0
      · have g0 := isEmpty_yes h0
        go_wp2
        go_roundw
        case rel => exact ⟨k + 1, by omega, by go_num, ⟨V, HV.out, fun y => by have e : N y + cntE (L.take k) y = N y + cntE (L.take (k + 1)) y := (by have := HCT.out y; rw [hit_no h0] at this; simp only [Bool.false_eq_true, if_false] at this; omega); rw [HVN.out y, e]⟩, HTM.out⟩
        case measure => simp [intOf]; omega
      · have g0 := isEmpty_no h0
        obtain ⟨c, hc1⟩ : ∃ c : Nat, c = N x + cntE (L.take k) x := ⟨_, rfl⟩
        have hc2 : (V x).getD (.int .i64 0) = .int .i64 (c : Int) := by rw [hc1]; exact HVN.out x
        have HC1 : Hid (c = N x + cntE (L.take k) x) := hc1
        have hcb : c ≤ 4611686018427387904 := by rw [hc1]; omega
        clear hc1
        go_wp2_with (first
          | (refine wpList_vlook rfl (.tmp 14) (.tmp 15) 76 3 (.int .i64 0) rfl Tryz.underlying76 (zeroI _) M V x rfl rfl hs HV.out ?_; rw [hc2])
          | (refine wpList_vput rfl (.tmp 14) (.tmp 15) (.tmp 17) 76 3 rfl Tryz.underlying76 M V x (.int .i64 (c + 1 : Nat)) rfl rfl (by simp [Act.eval] <;> omega) hs HV.out ?_; intro w1 hv1 ht1; have HV1 : Hid (SMap w1 M (fun y => if (y.toList == x.toList) = true then c + 1 else N y + cntE (L.take k) y)) := SMap.put HVN.out hv1; have HT1 : Hid (TurnedM wr w1 M) := ht1; clear hv1 ht1))
        go_roundw
        case rel => exact ⟨k + 1, by omega, by go_num, HV1.out.congr (fun y => by have := HCT.out y; rw [hit_yes h0] at this; by_cases e : (y.toList == x.toList) = true; (· rw [if_pos e] at this ⊢; have e2 := same_iff.1 e; subst e2; have := HC1.out; omega); (· rw [if_neg e] at this ⊢; omega)), HT1.out.1.trans HTM.out.1, fun c hc => (HT1.out.2.1 c hc).trans (HTM.out.2.1 c hc), HT1.out.2.2.1.trans HTM.out.2.2.1, HT1.out.2.2.2.1.trans HTM.out.2.2.2.1, HT1.out.2.2.2.2.trans HTM.out.2.2.2.2⟩
        case measure => simp [intOf]; omega
    · have e : k = L.length := by omega
      subst e
      have HSM : Hid (SMap wr M (fun y => N y + cntE L y)) := hsm.congr (fun y => by rw [List.take_length])
      have HTM : Hid (TurnedM w wr M) := htm
      clear hsm htm
      go_wp2
      go_end0
      exact ⟨rfl, HSM.out, HTM.out⟩
set_option maxHeartbeats 800000 in
theorem leave_is (M : Nat) (N : ByteArray → Nat) (L : List ByteArray) (v : Value) (w : World) (hS : SMap w M (fun y => N y + cntE L y)) (hv : TxtsL w v L) (hL : ∀ x ∈ L, x.size ≤ maxLen) (hN : ∀ y, N y + L.length ≤ 4611686018427387904) :
    Calls Tryz.prog 87 #[.map (some M), v] w fun e w' => e = .returned (.tuple #[]) ∧ SMap w' M N ∧ TurnedM w w' M := by
  obtain ⟨b, off, cap, rfl, hlc, hcm, hbw, hcells⟩ := hv
  have hbM : 0 < L.length → b ≠ M := fun h0 e => by
    obtain ⟨V, ⟨es, clock, h1, _⟩, _⟩ := hS
    have := hcells 0 h0
    subst e
    simp [World.cell?, h1] at this
  have HC : Hid (∀ i (h : i < L.length), w.cell? ⟨b, off + i, none⟩ = some (.string L[i])) := hcells
  have HS : Hid (SMap w M (fun y => N y + cntE L y)) := hS
  have HL : Hid (∀ x ∈ L, x.size ≤ maxLen) := hL
  have HN : Hid (∀ y, N y + L.length ≤ 4611686018427387904) := hN
  unfold maxLen at hcm
  clear hcells hS hL hN
  go_enter Tryz.func87, Tryz.ntmps87
  go_wp2
  go_loopw [8] (fun i wr => ∃ k : Nat, k ≤ L.length ∧ i = .int .i64 k ∧ SMap wr M (fun y => N y + cntE (L.drop k) y) ∧ TurnedM w wr M) (fun i _ => L.length - (intOf i).toNat)
  case atStart => exact ⟨0, Nat.zero_le _, rfl, HS.out, TurnedM.refl _ _⟩
  case round =>
    obtain ⟨k, hk, rfl, hsm, htm⟩ := hrel
    by_cases hlt : k < L.length
    · have hii : (k : Int) < (L.length : Int) := by omega
      have hc : wr.cell? ⟨b, off + k, none⟩ = some (.string L[k]) := by
        rw [← HC.out k hlt]; unfold World.cell?; rw [htm.2.1 b (hbM (by omega))]
      have hs := HL.out L[k] (List.getElem_mem _)
      have hn1 := HN.out L[k]
      have hn2 := cntE_le (L.drop k) L[k]
      have hn3 : (L.drop k).length ≤ L.length := by first | (simp; done) | (simp; omega)
      have HTM : Hid (TurnedM w wr M) := htm
      have HCT : Hid (∀ y, cntE (L.drop k) y = cntE (L.drop (k + 1)) y + (if hitB y L[k] = true then 1 else 0)) := fun y => cntE_drop hlt y
      obtain ⟨V, hV, hVN⟩ := hsm
      have HV : Hid (VMap wr M V) := hV
      have HVN : Hid (∀ x, (V x).getD (.int .i64 0) = .int .i64 ((N x + cntE (L.drop k) x : Nat) : Int)) := hVN
      generalize L[k] = x at *
      clear htm hV hVN
      by_cases h0 : x.size = 0
      · have g0 := isEmpty_yes h0
        go_wp2
        go_roundw
        case rel => exact ⟨k + 1, by omega, by go_num, ⟨V, HV.out, fun y => by have e : N y + cntE (L.drop k) y = N y + cntE (L.drop (k + 1)) y := (by have := HCT.out y; rw [hit_no h0] at this; simp only [Bool.false_eq_true, if_false] at this; omega); rw [HVN.out y, e]⟩, HTM.out⟩
        case measure => simp [intOf]; omega
      · have g0 := isEmpty_no h0
        obtain ⟨c, hc1⟩ : ∃ c : Nat, c = N x + cntE (L.drop k) x := ⟨_, rfl⟩
        have hc2 : (V x).getD (.int .i64 0) = .int .i64 (c : Int) := by rw [hc1]; exact HVN.out x
        have HC1 : Hid (c = N x + cntE (L.drop k) x) := hc1
        have hcp : 1 ≤ c := by have := HCT.out x; rw [hit_yes h0, if_pos (by simp)] at this; omega
        have hcb : c ≤ 4611686018427387904 := by rw [hc1]; omega
        clear hc1
        go_wp2_with (first
          | (refine wpList_vlook rfl (.tmp 14) (.tmp 15) 76 3 (.int .i64 0) rfl Tryz.underlying76 (zeroI _) M V x rfl rfl hs HV.out ?_; rw [hc2])
          | (refine wpList_vput rfl (.tmp 14) (.tmp 15) (.tmp 17) 76 3 rfl Tryz.underlying76 M V x (.int .i64 (c - 1 : Nat)) rfl rfl (by simp [Act.eval] <;> omega) hs HV.out ?_; intro w1 hv1 ht1; have HV1 : Hid (SMap w1 M (fun y => if (y.toList == x.toList) = true then c - 1 else N y + cntE (L.drop k) y)) := SMap.put HVN.out hv1; have HT1 : Hid (TurnedM wr w1 M) := ht1; clear hv1 ht1))
        go_roundw
        case rel => exact ⟨k + 1, by omega, by go_num, HV1.out.congr (fun y => by have := HCT.out y; rw [hit_yes h0] at this; by_cases e : (y.toList == x.toList) = true; (· rw [if_pos e] at this ⊢; have e2 := same_iff.1 e; subst e2; have := HC1.out; omega); (· rw [if_neg e] at this ⊢; omega)), HT1.out.1.trans HTM.out.1, fun c hc => (HT1.out.2.1 c hc).trans (HTM.out.2.1 c hc), HT1.out.2.2.1.trans HTM.out.2.2.1, HT1.out.2.2.2.1.trans HTM.out.2.2.2.1, HT1.out.2.2.2.2.trans HTM.out.2.2.2.2⟩
        case measure => simp [intOf]; omega
    · have e : k = L.length := by omega
      subst e
      have HSM : Hid (SMap wr M N) := hsm.congr (fun y => by simp [cntE])
      have HTM : Hid (TurnedM w wr M) := htm
      clear hsm htm
      go_wp2
      go_end0
      exact ⟨rfl, HSM.out, HTM.out⟩

/-- one more part -/
def cL (k : Int) (l : Nat) : Nat := l + (if loopB k = true then 1 else 0)
def cM (k : Int) (l : Nat) : Nat := l + (if makeB k = true then 1 else 0)
set_option maxHeartbeats 800000 in
theorem count_is (cb tb sb : Nat) (N : ByteArray → Nat) (l m p : Nat) (k : Int) (w : World) (h : CkS w cb tb sb N l m p) (hl : l ≤ 4611686018427387904) (hm : m ≤ 4611686018427387904) (hp : p ≤ 4611686018427387904) :
    Calls Tryz.prog 105 #[.pointer (some ⟨cb, 0, none⟩), .int .i64 k] w fun e w' => e = .returned (.tuple #[]) ∧ CkS w' cb tb sb N (cL k l) (cM k m) (p + 1) ∧ Below cb w w' := by
  obtain ⟨c0, c1, c2, c3, c4, f2, f3, f4⟩ := h.cells
  have hcb := h.lt
  have HP : Hid (CkS (w.setCell ⟨cb, 4, none⟩ (.int .i64 ((p : Int) + 1))) cb tb sb N l m (p + 1)) := by
    have h1 : CkS (w.setCell ⟨cb, 4, none⟩ (.int .i64 ((p : Int) + 1))) cb tb sb N l m (p + 1) := by have := h.setP (p + 1); simpa using this
    exact h1
  have HB : Hid (Below cb w (w.setCell ⟨cb, 4, none⟩ (.int .i64 ((p : Int) + 1)))) := (Below.refl cb w).setCell (p := ⟨cb, 4, none⟩) (Nat.le_refl _) _
  obtain ⟨d0, d1, d2, d3, d4, e2, e3, e4⟩ := HP.out.cells
  by_cases h5 : k = 5
  · subst h5
    have H5 : Hid (CkS ((w.setCell ⟨cb, 4, none⟩ (.int .i64 ((p : Int) + 1))).setCell ⟨cb, 2, none⟩ (.int .i64 ((l : Int) + 1))) cb tb sb N (l + 1) m (p + 1)) := (show CkS ((w.setCell ⟨cb, 4, none⟩ (.int .i64 ((p : Int) + 1))).setCell ⟨cb, 2, none⟩ (.int .i64 ((l : Int) + 1))) cb tb sb N (l + 1) m (p + 1) from (by have h9 := HP.out.setL (l + 1); simpa using h9))
    clear h
    go_enter Tryz.func105, Tryz.ntmps105
    go_wp2
    go_end0
    exact ⟨rfl, H5.out, HB.out.setCell (p := ⟨cb, _, none⟩) (Nat.le_refl _) _⟩
  · have g5 : (k == 5) = false := by simpa using h5
    by_cases h6 : k = 6
    · subst h6
      have H5 : Hid (CkS ((w.setCell ⟨cb, 4, none⟩ (.int .i64 ((p : Int) + 1))).setCell ⟨cb, 2, none⟩ (.int .i64 ((l : Int) + 1))) cb tb sb N (l + 1) m (p + 1)) := (show CkS ((w.setCell ⟨cb, 4, none⟩ (.int .i64 ((p : Int) + 1))).setCell ⟨cb, 2, none⟩ (.int .i64 ((l : Int) + 1))) cb tb sb N (l + 1) m (p + 1) from (by have h9 := HP.out.setL (l + 1); simpa using h9))
      clear h
      go_enter Tryz.func105, Tryz.ntmps105
      go_wp2
      go_end0
      exact ⟨rfl, H5.out, HB.out.setCell (p := ⟨cb, _, none⟩) (Nat.le_refl _) _⟩
    · have g6 : (k == 6) = false := by simpa using h6
      by_cases h10 : k = 10
      · subst h10
        have H5 : Hid (CkS ((w.setCell ⟨cb, 4, none⟩ (.int .i64 ((p : Int) + 1))).setCell ⟨cb, 3, none⟩ (.int .i64 ((m : Int) + 1))) cb tb sb N l (m + 1) (p + 1)) := by
          have h1 : CkS ((w.setCell ⟨cb, 4, none⟩ (.int .i64 ((p : Int) + 1))).setCell ⟨cb, 3, none⟩ (.int .i64 ((m : Int) + 1))) cb tb sb N l (m + 1) (p + 1) := by have := HP.out.setK (m + 1); simpa using this
          exact h1
        clear h
        go_enter Tryz.func105, Tryz.ntmps105
        go_wp2
        go_end0
        exact ⟨rfl, H5.out, HB.out.setCell (p := ⟨cb, _, none⟩) (Nat.le_refl _) _⟩
      · have g10 : (k == 10) = false := by simpa using h10
        have e1 : cL k l = l := by unfold cL loopB; rw [decide_eq_false (by omega)]; rfl
        have e2' : cM k m = m := by unfold cM makeB; rw [decide_eq_false (by omega)]; rfl
        rw [e1, e2']
        clear h
        go_enter Tryz.func105, Tryz.ntmps105
        go_wp2
        go_end0
        exact ⟨rfl, HP.out, HB.out⟩
end Go.Proofs.YtcbpjgnbdpfiiaaGreatDoor
