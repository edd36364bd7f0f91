/-
  THE CALLS of LowerCalls: what Lower answers.
-/
import Derived.Test.YtcbpjgnbdpfiiaaGreatDoorLxE
import Derived.Test.YtcbpjgnbdpfiiaaGreatDoorLxF
import Derived.Test.YtcbpjgnbdpfiiaaGreatDoorLxI
import Derived.Test.YtcbpjgnbdpfiiaaGreatDoorLxI
set_option linter.unusedVariables false
namespace Go.Proofs.YtcbpjgnbdpfiiaaGreatDoor
set_option maxRecDepth 100000
open Go.RowKit Go.WideShapes

theorem noEx_V : ExV noEx := ⟨0, 0, 0, 0, 0, 0, ⟨#[]⟩, ⟨#[]⟩, ⟨#[]⟩, ⟨#[]⟩, none, 0, 0, rfl⟩
/-- what checkAlone answers of a call, by what checkCall does -/
theorem alone_callP {nm : ByteArray} {n : Nat} {A : Nat → Ph} {R : Int} {N : ByteArray → Nat} {p : Nat} (hC : ∀ (W : World) (lb tb ob sb : Nat), XB W lb tb ob sb → XS W lb tb ob sb N p W → Calls Tryz.prog 81 #[.pointer (some ⟨lb, 0, none⟩), .string nm, .int .i64 n] W fun e w' => e = .returned (.int .i64 R) ∧ Below W.heap.size W w') :
    ∀ (W : World) (lb tb ob sb : Nat) (S : Nat → Prop) (pb po : Nat) (u : List Value), XB W lb tb ob sb → XS W lb tb ob sb N p W → PhIn W lb sb pb po (phN 8 ⟨0, 0, ⟨#[]⟩⟩ nm 0 0 0 ⟨#[]⟩ n A) S u → Calls Tryz.prog 48 #[.pointer (some ⟨lb, 0, none⟩), .pointer (some ⟨pb, po, none⟩)] W fun e w' => e = .returned (.int .i64 R) ∧ Below W.heap.size W w' := by
  intro W lb tb ob sb S pb po u hB hX hP
  obtain ⟨aa, ac, a10, c10, hu, _⟩ := hP.v
  exact alone_call lb pb po ⟨0, 0, ⟨#[]⟩⟩ nm 0 0 0 ⟨#[]⟩ aa n ac _ R W (phAt_c (hu ▸ hP.c)) (hP.h pb hP.s).1 (fun W' hW' => hC W' lb tb ob sb (hB.at (hX.below hW')) (hX.below hW').here)
theorem cc_plain {nm y : ByteArray} {n : Nat} {a R : Int} {N : ByteArray → Nat} {p : Nat} (hx : nm.size ≤ maxLen) (hR : tabF callsV nm n y a R) (n0 : (nm.toList == [116, 114, 117, 101]) = false) (n1 : (nm.toList == [102, 97, 108, 115, 101]) = false) (n2 : (nm.toList == [112, 111, 115, 105, 116, 105, 111, 110]) = false) (n3 : (nm.toList == [108, 97, 115, 116]) = false) (W : World) (lb tb ob sb : Nat) (hB : XB W lb tb ob sb) (hX : XS W lb tb ob sb N p W) :
    Calls Tryz.prog 81 #[.pointer (some ⟨lb, 0, none⟩), .string nm, .int .i64 n] W fun e w' => e = .returned (.int .i64 R) ∧ Below W.heap.size W w' :=
  checkCall_plain callsV lb tb _ _ _ _ nm y n a R W hx hX.l hB.t hR n0 n1 n2 n3
/-- a plain call of the right number of ones -/
theorem e_plain {nm y : ByteArray} {n : Nat} (hn : n ≤ 4) (hx : nm.size ≤ maxLen) (hy : y.size ≤ 4000) (hV : callsV nm = some (fV y n)) (n0 : (nm.toList == [116, 114, 117, 101]) = false) (n1 : (nm.toList == [102, 97, 108, 115, 101]) = false) (n2 : (nm.toList == [112, 111, 115, 105, 116, 105, 111, 110]) = false) (n3 : (nm.toList == [108, 97, 115, 116]) = false) (A : Nat → Ph) (hA : ∀ k, k < n → A k = litN 1) :
    RunE (phN 8 ⟨0, 0, ⟨#[]⟩⟩ nm 0 0 0 ⟨#[]⟩ n A) (fun _ => 0) 0 (n + 1) (exN 8 ⟨0, 0, ⟨#[]⟩⟩ y ⟨#[]⟩ 0 n (fun _ => exN 1 ⟨2, 1, ⟨#[]⟩⟩ ⟨#[]⟩ ⟨#[]⟩ 0 0 (fun _ => .no))) := by
  refine expr_call (alone_callP fun W lb tb ob sb hB hX => cc_plain hx (Or.inl ⟨hV, by simp⟩) n0 n1 n2 n3 W lb tb ob sb hB hX) (withParts_call ?_)
  intro w lb tb ob sb S pb po u hB hX hP
  exact called_plain (P := fun k => k) (by omega) (fun k hk => by show k ≤ 699; omega) (fun k hk => by rw [hA k hk]; exact e_lit ⟨2, 1, ⟨#[]⟩⟩ _ k (by omega) (by decide) (by decide +kernel) ⟨#[]⟩ 0 0 0 ⟨#[]⟩) hx hy hV n0 n1 n2 n3 ⟨0, 0, ⟨#[]⟩⟩ 0 0 0 ⟨#[]⟩ w lb tb ob sb S pb po u hB hX hP
/-- and of true -/
theorem e_true (A : Nat → Ph) : RunE (phN 8 ⟨0, 0, ⟨#[]⟩⟩ ⟨#[116, 114, 117, 101]⟩ 0 0 0 ⟨#[]⟩ 0 A) (fun _ => 0) 0 1 (exN 1 ⟨4, 1, ⟨#[]⟩⟩ ⟨#[]⟩ ⟨#[]⟩ 0 0 (fun _ => .no)) :=
  expr_call (alone_callP fun W lb tb ob sb hB hX => checkCall_true lb 0 W) (withParts_call (called_true _ 0 0 0 ⟨#[]⟩ 0 A _ 0 (by omega)))
/-- how many arguments each of the names has, and what it is called -/
def nmN : List Nat := [1, 2, 3, 0, 1]
def nmY : List ByteArray := [⟨#[99, 111, 117, 110, 116]⟩, ⟨#[99, 111, 110, 99, 97, 116]⟩, ⟨#[115, 117, 98, 115, 116, 114, 105, 110, 103]⟩, ⟨#[]⟩, ⟨#[100, 105, 115, 116, 105, 110, 99, 116]⟩]
theorem Tre.wide {w : World} {lo : Nat} {p : Ph} {v : List Value} (h : Tre w lo p v) : p.V w (fun b => b < w.heap.size) v := Ph.V.keep (fun b q => q.2) (fun _ _ => rfl) h
theorem plain_ok {nm y : ByteArray} {n : Nat} (hn : n ≤ 4) (hx : nm.size ≤ maxLen) (hy : y.size ≤ 4000) (hV : callsV nm = some (fV y n)) (n0 : (nm.toList == [116, 114, 117, 101]) = false) (n1 : (nm.toList == [102, 97, 108, 115, 101]) = false) (n2 : (nm.toList == [112, 111, 115, 105, 116, 105, 111, 110]) = false) (n3 : (nm.toList == [108, 97, 115, 116]) = false)
    (hN : nodesX (exN 8 ⟨0, 0, ⟨#[]⟩⟩ y ⟨#[]⟩ 0 n (fun _ => exN 1 ⟨2, 1, ⟨#[]⟩⟩ ⟨#[]⟩ ⟨#[]⟩ 0 0 (fun _ => .no))) ≤ 1048576) (hF : coreF (exN 8 ⟨0, 0, ⟨#[]⟩⟩ y ⟨#[]⟩ 0 n (fun _ => exN 1 ⟨2, 1, ⟨#[]⟩⟩ ⟨#[]⟩ ⟨#[]⟩ 0 0 (fun _ => .no))) = 0) (hA : ∀ k, k < n → callA n k = litN 1)
    (v : List Value) (w : World) (lo : Nat) (hv : Tre w lo (callP nm n) v) (hT : Tabs w) :
    Calls Tryz.prog 10 #[.agg v.toArray] w fun e w' => ∃ x, ExV x ∧ e = .returned (.tuple #[x, .int .i64 0]) ∧ Below w.heap.size w w' :=
  lower_ok (callP nm n) v w hv.wide hT (e_plain hn hx hy hV n0 n1 n2 n3 (callA n) hA) (by omega) hN 0 hF
theorem plain_no {nm y : ByteArray} {n : Nat} {a R : Int} (hx : nm.size ≤ maxLen) (hR : tabF callsV nm n y a R) (hr : ¬ R = 0) (n0 : (nm.toList == [116, 114, 117, 101]) = false) (n1 : (nm.toList == [102, 97, 108, 115, 101]) = false) (n2 : (nm.toList == [112, 111, 115, 105, 116, 105, 111, 110]) = false) (n3 : (nm.toList == [108, 97, 115, 116]) = false) (v : List Value) (w : World) (lo : Nat) (hv : Tre w lo (callP nm n) v) (hT : Tabs w) :
    Calls Tryz.prog 10 #[.agg v.toArray] w fun e w' => ∃ x, ExV x ∧ e = .returned (.tuple #[x, .int .i64 R]) ∧ Below w.heap.size w w' :=
  (lower_refused (callP nm n) v w hv.wide hT R hr (alone_callP fun W lb tb ob sb hB hX => cc_plain hx hR n0 n1 n2 n3 W lb tb ob sb hB hX)).mono fun e w' ⟨k1, k2⟩ => ⟨_, noEx_V, k1, k2⟩
theorem true_ok (v : List Value) (w : World) (lo : Nat) (hv : Tre w lo (callP ⟨#[116, 114, 117, 101]⟩ 0) v) (hT : Tabs w) :
    Calls Tryz.prog 10 #[.agg v.toArray] w fun e w' => ∃ x, ExV x ∧ e = .returned (.tuple #[x, .int .i64 0]) ∧ Below w.heap.size w w' :=
  lower_ok _ v w hv.wide hT (e_true (callA 0)) (by omega) (by decide +kernel) 0 (by decide +kernel)
theorem true_no (n : Nat) (hn : ¬ n = 0) (v : List Value) (w : World) (lo : Nat) (hv : Tre w lo (callP ⟨#[116, 114, 117, 101]⟩ n) v) (hT : Tabs w) :
    Calls Tryz.prog 10 #[.agg v.toArray] w fun e w' => ∃ x, ExV x ∧ e = .returned (.tuple #[x, .int .i64 11]) ∧ Below w.heap.size w w' :=
  (lower_refused _ v w hv.wide hT 11 (by decide) (alone_callP fun W lb tb ob sb hB hX => by have h := checkCall_true lb n W; rw [if_neg hn] at h; exact h)).mono fun e w' ⟨k1, k2⟩ => ⟨_, noEx_V, k1, k2⟩
/-- what Lower answers of a call of a name with so many arguments -/
def lowR (i k : Nat) : Int := if k = nmN.getD i 0 then 0 else 11
theorem calls_nm (i : Nat) (hi : i < 5) (h3 : i ≠ 3) : callsV (nmL.getD i ⟨#[]⟩) = some (fV (nmY.getD i ⟨#[]⟩) (nmN.getD i 0 : Nat)) := by
  match i, hi with
  | 0, _ => exact (show callsV _ = _ by kernel_rfl)
  | 1, _ => exact (show callsV _ = _ by kernel_rfl)
  | 2, _ => exact (show callsV _ = _ by kernel_rfl)
  | 3, _ => exact absurd rfl h3
  | 4, _ => exact (show callsV _ = _ by kernel_rfl)
theorem calls_od (i : Nat) (hi : i < 4) : callsV (odL.getD i ⟨#[]⟩) = none := by
  match i, hi with
  | 0, _ => exact (show callsV _ = _ by kernel_rfl)
  | 1, _ => exact (show callsV _ = _ by kernel_rfl)
  | 2, _ => exact (show callsV _ = _ by kernel_rfl)
  | 3, _ => exact (show callsV _ = _ by kernel_rfl)
theorem nm_sz (i : Nat) (hi : i < 5) : (nmL.getD i ⟨#[]⟩).size ≤ maxLen := by
  match i, hi with
  | 0, _ => decide
  | 1, _ => decide
  | 2, _ => decide
  | 3, _ => decide
  | 4, _ => decide
theorem od_sz (i : Nat) (hi : i < 4) : (odL.getD i ⟨#[]⟩).size ≤ maxLen := by
  match i, hi with
  | 0, _ => decide
  | 1, _ => decide
  | 2, _ => decide
  | 3, _ => decide
theorem od_low (i : Nat) (hi : i < 4) (v : List Value) (w : World) (lo : Nat) (hv : Tre w lo (callP (odL.getD i ⟨#[]⟩) (odN.getD i 0)) v) (hT : Tabs w) :
    Calls Tryz.prog 10 #[.agg v.toArray] w fun e w' => ∃ x, ExV x ∧ e = .returned (.tuple #[x, .int .i64 6]) ∧ Below w.heap.size w w' := by
  have hx := od_sz i hi
  have hV := calls_od i hi
  match i, hi with
  | 0, _ => exact plain_no (y := ⟨#[]⟩) (a := 0) hx (Or.inr ⟨hV, rfl⟩) (by decide) (by decide +kernel) (by decide +kernel) (by decide +kernel) (by decide +kernel) v w lo hv hT
  | 1, _ => exact plain_no (y := ⟨#[]⟩) (a := 0) hx (Or.inr ⟨hV, rfl⟩) (by decide) (by decide +kernel) (by decide +kernel) (by decide +kernel) (by decide +kernel) v w lo hv hT
  | 2, _ => exact plain_no (y := ⟨#[]⟩) (a := 0) hx (Or.inr ⟨hV, rfl⟩) (by decide) (by decide +kernel) (by decide +kernel) (by decide +kernel) (by decide +kernel) v w lo hv hT
  | 3, _ => exact plain_no (y := ⟨#[]⟩) (a := 0) hx (Or.inr ⟨hV, rfl⟩) (by decide) (by decide +kernel) (by decide +kernel) (by decide +kernel) (by decide +kernel) v w lo hv hT
theorem nm_low (i k : Nat) (hi : i < 5) (hk : k < 5) (v : List Value) (w : World) (lo : Nat) (hv : Tre w lo (callP (nmL.getD i ⟨#[]⟩) k) v) (hT : Tabs w) :
    Calls Tryz.prog 10 #[.agg v.toArray] w fun e w' => ∃ x, ExV x ∧ e = .returned (.tuple #[x, .int .i64 (lowR i k)]) ∧ Below w.heap.size w w' := by
  have hx := nm_sz i hi
  by_cases hkn : k = nmN.getD i 0
  · have e : lowR i k = 0 := if_pos hkn
    rw [e]
    subst hkn
    match i, hi with
    | 0, _ => exact plain_ok (y := nmY.getD 0 ⟨#[]⟩) (by decide) hx (by decide) (calls_nm 0 (by omega) (by omega)) (by decide +kernel) (by decide +kernel) (by decide +kernel) (by decide +kernel) (by decide +kernel) (by decide +kernel) (fun k hk => rfl) v w lo hv hT
    | 1, _ => exact plain_ok (y := nmY.getD 1 ⟨#[]⟩) (by decide) hx (by decide) (calls_nm 1 (by omega) (by omega)) (by decide +kernel) (by decide +kernel) (by decide +kernel) (by decide +kernel) (by decide +kernel) (by decide +kernel) (fun k hk => rfl) v w lo hv hT
    | 2, _ => exact plain_ok (y := nmY.getD 2 ⟨#[]⟩) (by decide) hx (by decide) (calls_nm 2 (by omega) (by omega)) (by decide +kernel) (by decide +kernel) (by decide +kernel) (by decide +kernel) (by decide +kernel) (by decide +kernel) (fun k hk => rfl) v w lo hv hT
    | 3, _ => exact true_ok v w lo hv hT
    | 4, _ => exact plain_ok (y := nmY.getD 4 ⟨#[]⟩) (by decide) hx (by decide) (calls_nm 4 (by omega) (by omega)) (by decide +kernel) (by decide +kernel) (by decide +kernel) (by decide +kernel) (by decide +kernel) (by decide +kernel) (fun k hk => rfl) v w lo hv hT
  · have e : lowR i k = 11 := if_neg hkn
    have e2 : (11 : Int) = if ((nmN.getD i 0 : Nat) : Int) = (k : Int) then 0 else 11 := by rw [if_neg (by omega)]
    rw [e]
    match i, hi with
    | 0, _ => exact plain_no (y := nmY.getD 0 ⟨#[]⟩) (a := ((nmN.getD 0 0 : Nat) : Int)) hx (Or.inl ⟨calls_nm 0 (by omega) (by omega), e2⟩) (by decide) (by decide +kernel) (by decide +kernel) (by decide +kernel) (by decide +kernel) v w lo hv hT
    | 1, _ => exact plain_no (y := nmY.getD 1 ⟨#[]⟩) (a := ((nmN.getD 1 0 : Nat) : Int)) hx (Or.inl ⟨calls_nm 1 (by omega) (by omega), e2⟩) (by decide) (by decide +kernel) (by decide +kernel) (by decide +kernel) (by decide +kernel) v w lo hv hT
    | 2, _ => exact plain_no (y := nmY.getD 2 ⟨#[]⟩) (a := ((nmN.getD 2 0 : Nat) : Int)) hx (Or.inl ⟨calls_nm 2 (by omega) (by omega), e2⟩) (by decide) (by decide +kernel) (by decide +kernel) (by decide +kernel) (by decide +kernel) v w lo hv hT
    | 3, _ => exact true_no k hkn v w lo hv hT
    | 4, _ => exact plain_no (y := nmY.getD 4 ⟨#[]⟩) (a := ((nmN.getD 4 0 : Nat) : Int)) hx (Or.inl ⟨calls_nm 4 (by omega) (by omega), e2⟩) (by decide) (by decide +kernel) (by decide +kernel) (by decide +kernel) (by decide +kernel) v w lo hv hT
end Go.Proofs.YtcbpjgnbdpfiiaaGreatDoor
