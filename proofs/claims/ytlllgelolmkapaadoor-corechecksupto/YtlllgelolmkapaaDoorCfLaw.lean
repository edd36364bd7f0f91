/-
  CONTRACTS: the law CoreChecks.
-/
import Derived.Test.YtlllgelolmkapaaDoorCkCheck
import Derived.Test.YtlllgelolmkapaaDoorCfCore
import Derived.Deep.Cut
set_option linter.unusedVariables false
namespace Go.Proofs.YtlllgelolmkapaaDoor
set_option maxRecDepth 100000
open Go.RowKit Go.WideShapes

set_option maxHeartbeats 3200000 in
theorem lawCore (B : Nat) (x : Ex) (v : Value) (w : World) (hv : x.V w B v) (hB : B ≤ w.heap.size) (hT : TB B w) (hN : nodesX x ≤ 1048576) :
    Calls Tryd.prog 3 #[v] w fun e w' => e = .returned (.bool true) ∧ Below w.heap.size w w' := by
  have HV : Hid (Ex.V w B x v) := hv
  cases x with
  | no => exact hv.elim
  | mk k it nm a n ax tk tn m A =>
  obtain ⟨sl, cap, rfl, s1, s2, s3, hmc, hcm, hsl⟩ := hv
  obtain ⟨x, hx⟩ : ∃ y, y = Ex.mk k it nm a n ax tk tn m A := ⟨_, rfl⟩
  rw [← hx] at HV hN
  have HBOX0 : Hid (∀ W, Below (w.heap.size + 1) (w.alloc (.cells #[.int .i64 k, .int .i64 it.kind, .int .i64 it.n, .string it.s, .string nm, .string a, .int .i64 n, .int .i64 ax, .int .i64 tk, .string tn, .slice sl m cap] 28)) W → HeadAt W w.heap.size 0 k it nm a n ax tk tn (.slice sl m cap)) := fun W hW => (head_box w k it nm a n ax tk tn _ s1 s2 s3 _).keep (hW.block _ (by omega))
  have HB00 : Hid (Below w.heap.size w (w.alloc (.cells #[.int .i64 k, .int .i64 it.kind, .int .i64 it.n, .string it.s, .string nm, .string a, .int .i64 n, .int .i64 ax, .int .i64 tk, .string tn, .slice sl m cap] 28))) := (Below.refl _ _).alloc (Nat.le_refl _) _
  have hz0 : (w.alloc (.cells #[.int .i64 k, .int .i64 it.kind, .int .i64 it.n, .string it.s, .string nm, .string a, .int .i64 n, .int .i64 ax, .int .i64 tk, .string tn, .slice sl m cap] 28)).heap.size = w.heap.size + 1 := by simp
  have HVW : Hid (∀ W, Below w.heap.size w W → x.V W B (.agg #[.int .i64 k, .int .i64 it.kind, .int .i64 it.n, .string it.s, .string nm, .string a, .int .i64 n, .int .i64 ax, .int .i64 tk, .string tn, .slice sl m cap])) := fun W hW => HV.out.below (hW.mono hB)
  have C1 : Hid (∀ W, Below w.heap.size w W → Calls Tryd.prog 4 #[.agg #[.int .i64 k, .int .i64 it.kind, .int .i64 it.n, .string it.s, .string nm, .string a, .int .i64 n, .int .i64 ax, .int .i64 tk, .string tn, .slice sl m cap]] W fun e w' => e = .returned (.int .i64 (coreF x)) ∧ Below W.heap.size W w') := fun W hW => check_is B x _ W (HVW.out W hW) (Nat.le_trans hB hW.size) (hT.below (hW.mono hB)) hN
  have C2 : Hid (∀ W, Below w.heap.size w W → Calls Tryd.prog 5 #[.agg #[.int .i64 k, .int .i64 it.kind, .int .i64 it.n, .string it.s, .string nm, .string a, .int .i64 n, .int .i64 ax, .int .i64 tk, .string tn, .slice sl m cap]] W fun e w' => e = .returned (.int .i64 (coreF x)) ∧ Below W.heap.size W w') := fun W hW => coreFault_is B x _ W (HVW.out W hW) (Nat.le_trans hB hW.size) (hT.below (hW.mono hB)) hN
  generalize coreF x = R at *
  clear hsl hT hmc hcm s1 s2 s3 hN
  go_enter Tryd.func3, Tryd.ntmps3
  go_upto_region 1 with fail
  obtain ⟨W0, hW0⟩ : ∃ W, W = w.alloc (.cells #[.int .i64 k, .int .i64 it.kind, .int .i64 it.n, .string it.s, .string nm, .string a, .int .i64 n, .int .i64 ax, .int .i64 tk, .string tn, .slice sl m cap] 28) := ⟨_, rfl⟩
  have HBOX := HBOX0
  have HB0 := HB00
  rw [← hW0] at HBOX HB0 hz0 ⊢
  have HZ0 : Hid (W0.heap.size = w.heap.size + 1) := hz0
  have hlt0 : w.heap.size < W0.heap.size := by omega
  clear hW0 hz0 HBOX0 HB00
  obtain ⟨d0, d1, d2, d3, d4, d5, d6, d7, d8, d9, d10, _, _, _⟩ := HBOX.out W0 (Below.refl _ _)
  go_wp2_with (first
    | (go_at_call 4; refine (C1.out _ (HB0.out.trans ((Below.refl (w.heap.size + 1) W0).mono (by omega)))).mono ?_; rintro e w1 ⟨rfl, hb1⟩; have HB1 : Hid (Below (w.heap.size + 1) W0 w1) := (Below.refl (w.heap.size + 1) W0).trans (hb1.mono (by have := (Below.refl (w.heap.size + 1) W0).size; omega)); have hz1 : w.heap.size < w1.heap.size := (by have := HB1.out.size; omega); clear hb1 C1; clear d0 d1 d2 d3 d4 d5 d6 d7 d8 d9 d10; obtain ⟨d0, d1, d2, d3, d4, d5, d6, d7, d8, d9, d10, _, _, _⟩ := HBOX.out w1 HB1.out)
    | (go_at_call 5; refine (C2.out _ (HB0.out.trans (HB1.out.mono (by omega)))).mono ?_; rintro e w2 ⟨rfl, hb2⟩; have HB2 : Hid (Below (w.heap.size + 1) W0 w2) := HB1.out.trans (hb2.mono (by have := HB1.out.size; omega)); have hz2 : w.heap.size < w2.heap.size := (by have := HB2.out.size; omega); clear hb2 C2; clear d0 d1 d2 d3 d4 d5 d6 d7 d8 d9 d10; obtain ⟨d0, d1, d2, d3, d4, d5, d6, d7, d8, d9, d10, _, _, _⟩ := HBOX.out w2 HB2.out))
  go_ret
  exact ⟨ret_bool (by simp), HB0.out.trans (HB2.out.mono (by omega))⟩
end Go.Proofs.YtlllgelolmkapaaDoor
