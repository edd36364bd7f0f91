/-
  CONTRACTS of package run at a plan of two ops, a table and a function of its two columns: its evaluation: a function of each row.
-/
import Derived.Test.YtmoeipdchapodaaGreatDoorRuEvE
import Derived.Deep.RegionHeld3
import Derived.Deep.QuietTactic
import Derived.Deep.Cut
import Derived.BigQuiet
import Derived.Deep.RegionLaw
import Derived.Laws.EntriesVeiled
set_option linter.unusedVariables false
namespace Go.Proofs.YtmoeipdchapodaaGreatDoor
set_option maxRecDepth 100000
open Go.RowKit Go.WideShapes

set_option maxHeartbeats 12800000 in
theorem apply_bad (F : FuncId) (caps : Array Value) (ob qb rb ro rk ck cb : Nat) (ca : Option Addr) (x y r : It) (w : World) (hrun : ∀ (args : Array Value) (W : World), Sem.run Tryz.prog (callFunc F args) W = .ok (.enter F args) W) (hrs : r.s.size ≤ maxLen) (hT : ∀ W, Below w.heap.size w W → Tabs W) (ok : Bool) (hbad : ok = false ∨ mayI r = false)
    (hc : StrsIs w (.slice ca 2 ck) 2 C2) (hq : w.heap[qb]? = some (.cells #[.slice (some ⟨rb, ro, none⟩) 2 rk] 33)) (hr : TwoAt w rb ro x y) (hrk : 2 ≤ rk) (hrm : rk ≤ maxLen) (hcb : w.heap[cb]? = some (.cells #[.string ⟨#[112, 111, 115]⟩, .string ⟨#[105, 116, 101, 109]⟩, .string ⟨#[99]⟩] 9))
    (hval : ∀ W ib, Below w.heap.size w W → W.heap[ib]? = some (.cells #[.int .i64 x.kind, .int .i64 x.n, .string x.s, .int .i64 y.kind, .int .i64 y.n, .string y.s] 24) → Calls Tryz.prog F (#[.pointer (some ⟨ob, 0, none⟩), .slice (some ⟨ib, 0, none⟩) 2 2] ++ caps) W fun e w' => e = .returned (.tuple #[.agg #[.int .i64 r.kind, .int .i64 r.n, .string r.s], .bool ok]) ∧ Below W.heap.size W w') :
    Calls Tryz.prog 86 #[.pointer (some ⟨ob, 0, none⟩), .agg #[.slice ca 2 ck, .slice (some ⟨qb, 0, none⟩) 1 1], .string ⟨#[118]⟩, .func (.func F) #[] caps, .slice (some ⟨cb, 0, none⟩) 2 3] w fun e w' => e = .returned (.tuple #[.agg #[.slice none 0 0, .slice none 0 0], .int .i64 12]) ∧ Below w.heap.size w w' := by
  have CC1 : Hid (∀ W bb, Below w.heap.size w W → (∃ nb T, W.heap[bb]? = some (.cells #[.slice ca 2 ck, .slice (some ⟨nb, 0, none⟩) 1 1] T) ∧ W.heap[nb]? = some (.cells #[.string ⟨#[118]⟩] 9)) → Calls Tryz.prog 111 #[.slice (some ⟨bb, 0, none⟩) 2 2] W fun e w' => ∃ a cap, e = .returned (.slice a 3 cap) ∧ Below W.heap.size W w') := fun W bb hW hex => by
    obtain ⟨nb, T, hbb0, hnb0⟩ := hex
    obtain ⟨k0, k1, _, _, hbb⟩ := blk2 hbb0
    obtain ⟨k2, _, hnb⟩ := blk1 hnb0
    refine Calls.mono (concatS_two bb 0 2 _ _ ⟨2, C2⟩ ⟨1, fun _ => ⟨#[118]⟩⟩ W (Nat.le_refl _) (by unfold maxLen; omega) hbb k0 k1 (hc.below hW) ⟨_, 1, rfl, Nat.le_refl _, by unfold maxLen; omega, (fun h => nomatch h), fun _ => ⟨nb, 0, rfl, hnb, fun i hi => by
      obtain rfl : i = 0 := by have : i < 1 := hi; omega
      exact k2⟩⟩ (by rw [app3]; show 3 * 16 ≤ _; omega)) ?_
    rw [app3]
    rintro e w' ⟨u, rfl, h1, ⟨a, cap, rfl⟩, h2⟩
    exact ⟨a, cap, rfl, h2⟩
  have hmk := mk_rows01
  have hmf : ∀ (fn : Fn) (first cap : Array Value) (w : World), (Instr.makeFunc fn first cap).run Tryz.prog w = .ok (.func fn first cap) w := fun _ _ _ _ => rfl
  go_enter Tryz.func86, Tryz.ntmps86
  go_upto_region 1 with fail
  obtain ⟨W0, hW0⟩ : ∃ W, W = (((w.alloc (.cells #[.pointer (some ⟨ob, 0, none⟩)] 77)).alloc (.cells #[.slice ca 2 ck, .slice (some ⟨qb, 0, none⟩) 1 1] 36)).alloc (.cells #[.func (.func F) #[] caps] 82)).alloc (.cells #[.slice none 0 0, .slice none 0 0] 36) := ⟨_, rfl⟩
  have HB0 : Hid (Below w.heap.size w W0) := by rw [hW0]; (focus (repeat (first | exact Below.refl _ _ | exact Hid.out (by assumption) | refine Below.setCell ?_ (by first | omega | (simp <;> omega)) _ | refine Below.alloc ?_ (by first | omega | (simp <;> omega)) _)))
  have HF0 : Hid (W0.heap[w.heap.size]? = some (.cells #[.pointer (some ⟨ob, 0, none⟩)] 77)) := by rw [hW0]; exact alloc_old (alloc_old (alloc_old (alloc_newN rfl)))
  have HR0 : Hid (W0.heap[w.heap.size + 1]? = some (.cells #[.slice ca 2 ck, .slice (some ⟨qb, 0, none⟩) 1 1] 36)) := by rw [hW0]; exact alloc_old (alloc_old (alloc_newN (by simp)))
  have HV0 : Hid (W0.heap[w.heap.size + 2]? = some (.cells #[.func (.func F) #[] caps] 82)) := by rw [hW0]; exact alloc_old (alloc_newN (by simp))
  have HA0 : Hid (W0.heap[w.heap.size + 3]? = some (.cells #[.slice none 0 0, .slice none 0 0] 36)) := by rw [hW0]; exact alloc_newN (by simp)
  have hz0 : W0.heap.size = w.heap.size + 4 := by rw [hW0]; simp
  have hz0' : w.heap.size + 4 ≤ W0.heap.size := by omega
  have HZ0 := hidR hz0
  simp only [Nat.add_assoc, Nat.reduceAdd]
  rw [← hW0]
  clear hW0 hz0
  obtain ⟨r0, r1, _, _, r4⟩ := blk2 HR0.out
  go_cut [12] from 14 to 24 (fun s W => ∃ mb mq a k, s = .pointer (some ⟨mb, 0, none⟩) ∧ MadeAt W mb mq a k ∧ mb ≠ mq ∧ W0.heap.size ≤ mb ∧ W0.heap.size ≤ mq ∧ Below W0.heap.size W0 W)
  case first =>
    have HS : Hid (∀ W, Below W0.heap.size W0 W → W.cell? ⟨w.heap.size + 1, 0, none⟩ = some (.slice ca 2 ck) ∧ W.cell? ⟨w.heap.size + 1, 1, none⟩ = some (.slice (some ⟨qb, 0, none⟩) 1 1) ∧ w.heap.size + 1 < W.heap.size) := fun W hW => ⟨(hW.cell (p := ⟨w.heap.size + 1, 0, none⟩) r4).trans r0, (hW.cell (p := ⟨w.heap.size + 1, 1, none⟩) r4).trans r1, Nat.lt_of_lt_of_le r4 hW.size⟩
    go_region_held3 (fun W => W.cell? ⟨w.heap.size + 1, 0, none⟩ = some (.slice ca 2 ck) ∧ W.cell? ⟨w.heap.size + 1, 1, none⟩ = some (.slice (some ⟨qb, 0, none⟩) 1 1) ∧ w.heap.size + 1 < W.heap.size)
      ((refine HS.out _ ?_; (focus (repeat (first | exact Below.refl _ _ | exact Hid.out (by assumption) | refine Below.setCell ?_ (by first | omega | (simp <;> omega)) _ | refine Below.alloc ?_ (by first | omega | (simp <;> omega)) _ | refine Below.trans ?_ (drew_belowE _ _))))))
      ((go_at_call 111; refine Calls.mono (CC1.out _ _ ?_ ?_) ?_; (· exact HB0.out.trans (Below.mono (B := W0.heap.size) (by (focus (repeat (first | exact Below.refl _ _ | exact Hid.out (by assumption) | refine Below.setCell ?_ (by first | omega | (simp <;> omega)) _ | refine Below.alloc ?_ (by first | omega | (simp <;> omega)) _ | refine Below.trans ?_ (drew_belowE _ _))))) HB0.out.size)); (· exact ⟨_, _, by (focus (repeat (first | with_reducible refine blk_drew ?_ | with_reducible exact alloc_newN (by simp) | with_reducible refine alloc_old ?_))), by (focus (repeat (first | with_reducible refine blk_drew ?_ | with_reducible exact alloc_newN (by simp) | with_reducible refine alloc_old ?_)))⟩); rintro e w1 ⟨a1, k1, rfl, hb1⟩; have HB1 : Hid (Below W0.heap.size W0 w1) := Below.trans (by (focus (repeat (first | exact Below.refl _ _ | exact Hid.out (by assumption) | refine Below.setCell ?_ (by first | omega | (simp <;> omega)) _ | refine Below.alloc ?_ (by first | omega | (simp <;> omega)) _ | refine Below.trans ?_ (drew_belowE _ _))))) (hb1.mono (by simp <;> omega)); have HBW := hidR hb1; obtain ⟨hc1, hf1⟩ := bcellR hb1; have hz1 := hb1.size; simp at hz1; (first | (have zz := size4 hz1; obtain ⟨za, zb, zc, zd⟩ := zz) | (have zz := size3 hz1; obtain ⟨za, zb, zc⟩ := zz) | (have zz := size2 hz1; obtain ⟨za, zb⟩ := zz)); have g00 := hc1 (W0.heap.size) 0; have p00 := hf1 (W0.heap.size) 0; (try simp [go_sem] at g00); (try simp [go_sem] at p00); have g01 := hc1 (W0.heap.size) 1; have p01 := hf1 (W0.heap.size) 1; (try simp [go_sem] at g01); (try simp [go_sem] at p01); have g10 := hc1 (W0.heap.size + 1) 0; have p10 := hf1 (W0.heap.size + 1) 0; (try simp [go_sem] at g10); (try simp [go_sem] at p10); have g11 := hc1 (W0.heap.size + 1) 1; have p11 := hf1 (W0.heap.size + 1) 1; (try simp [go_sem] at g11); (try simp [go_sem] at p11); have g20 := hc1 (W0.heap.size + 1 + 1) 0; have p20 := hf1 (W0.heap.size + 1 + 1) 0; (try simp [go_sem] at g20); (try simp [go_sem] at p20); have g21 := hc1 (W0.heap.size + 1 + 1) 1; have p21 := hf1 (W0.heap.size + 1 + 1) 1; (try simp [go_sem] at g21); (try simp [go_sem] at p21); have g30 := hc1 (W0.heap.size + 1 + 1 + 1) 0; have p30 := hf1 (W0.heap.size + 1 + 1 + 1) 0; (try simp [go_sem] at g30); (try simp [go_sem] at p30); have g31 := hc1 (W0.heap.size + 1 + 1 + 1) 1; have p31 := hf1 (W0.heap.size + 1 + 1 + 1) 1; (try simp [go_sem] at g31); (try simp [go_sem] at p31); clear hb1 hc1 hf1))
    all_goals
      go_wp2_with fail
      go_meet
      exact ⟨_, _, _, _, rfl, ⟨by (focus (repeat (first | with_reducible refine blk_drew ?_ | with_reducible exact alloc_newN (by simp) | with_reducible refine alloc_old ?_ | with_reducible refine set_two (p := .slice none 0 0) (q := .slice none 0 0) ?_ | with_reducible refine set_two_other ?_ (by omega) | refine blk_below HBW.out (by simp <;> omega) ?_))), by (focus (repeat (first | with_reducible refine blk_drew ?_ | with_reducible exact alloc_newN (by simp) | with_reducible refine alloc_old ?_ | with_reducible refine set_two (p := .slice none 0 0) (q := .slice none 0 0) ?_ | with_reducible refine set_two_other ?_ (by omega) | refine blk_below HBW.out (by simp <;> omega) ?_)))⟩, by omega, by omega, by omega, by (focus (repeat (first | exact Below.refl _ _ | exact Hid.out (by assumption) | refine Below.setCell ?_ (by first | omega | (simp <;> omega)) _ | refine Below.alloc ?_ (by first | omega | (simp <;> omega)) _ | refine Below.trans ?_ (drew_belowE _ _))))⟩
  case rest =>
    obtain ⟨mb, mq, a, k, rfl, hM, hne, hmb, hmq, hbel⟩ := hcut
    have HBC : Hid (Below W0.heap.size W0 wc) := hbel
    have HMC : Hid (MadeAt wc mb mq a k) := hM
    have hzc := hbel.size
    have HFC := hidR (blk_below hbel (by omega) HF0.out)
    have HRC := hidR (blk_below hbel (by omega) HR0.out)
    have HVC := hidR (blk_below hbel (by omega) HV0.out)
    have HWC : Hid (Below w.heap.size w wc) := HB0.out.trans (hbel.mono HB0.out.size)
    clear hM hbel r0 r1 r4
    obtain ⟨r0, r1, _, _, r4⟩ := blk2 HRC.out
    obtain ⟨c0, c1, _, _, _, _, cz⟩ := blk3 (blk_below HWC.out (Array.getElem?_eq_some_iff.1 hcb).1 hcb)
    have CE : Hid (Calls Tryz.prog 123 #[.agg #[.slice ca 2 ck, .slice (some ⟨qb, 0, none⟩) 1 1], .func (.func 124) #[] #[.pointer (some ⟨w.heap.size + 2, 0, none⟩), .pointer (some ⟨w.heap.size, 0, none⟩), .pointer (some ⟨mb, 0, none⟩)], .slice (some ⟨cb, 0, none⟩) 2 3] wc fun e w' => e = .returned (.int .i64 12) ∧ Below W0.heap.size W0 w') :=
      each_is ca ck qb rb ro rk cb _ _ _ x y 12 _ wc (hc.below HWC.out) (blk_below HWC.out (Array.getElem?_eq_some_iff.1 hq).1 hq) (hr.below HWC.out) hrk hrm cz c0 c1 (fun W ib hW hib => by
        have hW0 : Below w.heap.size w W := HWC.out.trans (hW.mono HWC.out.size)
        have k1 := apply1_bad F caps (.pointer (some ⟨ob, 0, none⟩)) (w.heap.size + 2) w.heap.size mb ib rb ro rk r ok W hrun (blk_below hW (by omega) HVC.out) (blk_below hW (by omega) HFC.out) hrs (fun W' hW' => hT W' (hW0.trans (hW'.mono hW0.size))) (hval W ib hW0 hib) hbad
        refine Calls.mono k1 ?_
        rintro e w' ⟨rfl, h4⟩
        exact ⟨rfl, HBC.out.trans ((hW.mono hzc).trans (h4.mono (by have := hW.size; omega)))⟩)
    clear hc hq hr hrk hrm hcb hval hrs hT hbad c0 c1 cz CC1
    go_wp2_with (go_at_call 123; refine CE.out.mono ?_; rintro e w2 ⟨rfl, h4⟩; have H4 := hidR h4; have HA2 := hidR (blk_below h4 (by omega) HA0.out); obtain ⟨q0, q1, q2, q3, q4⟩ := blk2 HA2.out; clear h4)
    refine bodyPost_ret (v := .tuple #[.agg #[.slice none 0 0, .slice none 0 0], .int .i64 12]) (by simp [results, Tryz.results86, go_sem, q0, q1]) rfl ⟨rfl, ?_⟩
    have HX : Hid (Below w.heap.size w w2) := HB0.out.trans (H4.out.mono HB0.out.size)
    (focus (repeat (first | exact Below.refl _ _ | exact Hid.out (by assumption) | refine Below.setCell ?_ (by first | omega | (simp <;> omega)) _ | refine Below.alloc ?_ (by first | omega | (simp <;> omega)) _)))
end Go.Proofs.YtmoeipdchapodaaGreatDoor
