/-
  STEPS FROM NOTHING, OVER NOTHING (stair.Walk).
-/
import Derived.Test.YtkcejelmohameaaGreatDoorRdOp
import Derived.Deep.QuietTactic
import Derived.BigQuiet
import Derived.Laws.EntriesVeiled
import Derived.Test.YtkcejelmohameaaGreatDoorRlRank
import Derived.Test.YtkcejelmohameaaGreatDoorRlCMap
import Derived.Test.YtkcejelmohameaaGreatDoorRlCols
import Derived.Sort.AtCall
import Derived.Test.YtkcejelmohameaaGreatDoorWkNil
import Derived.Deep.RegionHeld3
import Derived.Deep.RegionLaw
import Derived.WalkLawsBesides
import Derived.Outline
import Derived.Shelf.Sort.Plain
import Derived.Shelf.Slices.In.SortNone
import Derived.Test.YtkcejelmohameaaGreatDoorShelf
namespace Go.Proofs
open Go.Shelf
def Tryz.lays189_ren : Go.Shelf.Ren := ⟨fun | 189 => 171 | 125 => 206 | 257 => 205 | 128 => 236 | 129 => 237 | 294 => 227 | 295 => 228 | 296 => 229 | 297 => 230 | 298 => 231 | 299 => 232 | 216 => 233 | 300 => 234 | 301 => 235 | 328 => 256 | 329 => 257 | 330 => 258 | 331 => 259 | 332 => 260 | 215 => 164 | 343 => 268 | n => n, fun | 28 => 34 | 3 => 3 | 46 => 173 | 0 => 0 | 51 => 176 | 53 => 206 | 4 => 4 | 183 => 219 | 182 => 218 | 131 => 111 | 5 => 5 | 9 => 9 | 218 => 239 | 222 => 243 | 228 => 251 | 229 => 252 | n => n, fun | n => n⟩
theorem Tryz.lays189 : Go.Proofs.Lays.n189 Tryz.prog Tryz.lays189_ren := {
  mixed := by kernel_rfl
  f125 := Tryz.func206.trans (congrArg some (by kernel_rfl))
  f128 := Tryz.func236.trans (congrArg some (by kernel_rfl))
  f129 := Tryz.func237.trans (congrArg some (by kernel_rfl))
  f189 := Tryz.func171.trans (congrArg some (by kernel_rfl))
  f215 := Tryz.func164.trans (congrArg some (by kernel_rfl))
  f216 := Tryz.func233.trans (congrArg some (by kernel_rfl))
  f257 := Tryz.func205.trans (congrArg some (by kernel_rfl))
  f294 := Tryz.func227.trans (congrArg some (by kernel_rfl))
  f295 := Tryz.func228.trans (congrArg some (by kernel_rfl))
  f296 := Tryz.func229.trans (congrArg some (by kernel_rfl))
  f297 := Tryz.func230.trans (congrArg some (by kernel_rfl))
  f298 := Tryz.func231.trans (congrArg some (by kernel_rfl))
  f299 := Tryz.func232.trans (congrArg some (by kernel_rfl))
  f300 := Tryz.func234.trans (congrArg some (by kernel_rfl))
  f301 := Tryz.func235.trans (congrArg some (by kernel_rfl))
  f328 := Tryz.func256.trans (congrArg some (by kernel_rfl))
  f329 := Tryz.func257.trans (congrArg some (by kernel_rfl))
  f330 := Tryz.func258.trans (congrArg some (by kernel_rfl))
  f331 := Tryz.func259.trans (congrArg some (by kernel_rfl))
  f332 := Tryz.func260.trans (congrArg some (by kernel_rfl))
  f343 := Tryz.func268.trans (congrArg some (by kernel_rfl))
  t0 := Tryz.underlying0
  a0 := Tryz.isAgg0
  z0 := Tryz.sizeOf0
  v0 := Tryz.zeroValue0
  t3 := Tryz.underlying3
  a3 := Tryz.isAgg3
  z3 := Tryz.sizeOf3
  v3 := Tryz.zeroValue3
  t4 := Tryz.underlying4
  a4 := Tryz.isAgg4
  z4 := Tryz.sizeOf4
  v4 := Tryz.zeroValue4
  t5 := Tryz.underlying5
  a5 := Tryz.isAgg5
  z5 := Tryz.sizeOf5
  v5 := Tryz.zeroValue5
  t9 := Tryz.underlying9
  a9 := Tryz.isAgg9
  z9 := Tryz.sizeOf9
  v9 := Tryz.zeroValue9
  t28 := Tryz.underlying34
  a28 := Tryz.isAgg34
  z28 := Tryz.sizeOf34
  v28 := Tryz.zeroValue34
  t46 := Tryz.underlying173
  a46 := Tryz.isAgg173
  z46 := Tryz.sizeOf173
  v46 := Tryz.zeroValue173
  t51 := Tryz.underlying176
  a51 := Tryz.isAgg176
  z51 := Tryz.sizeOf176
  v51 := Tryz.zeroValue176
  t53 := Tryz.underlying206
  a53 := Tryz.isAgg206
  z53 := Tryz.sizeOf206
  v53 := Tryz.zeroValue206
  t131 := Tryz.underlying111
  a131 := Tryz.isAgg111
  z131 := Tryz.sizeOf111
  v131 := Tryz.zeroValue111
  t182 := Tryz.underlying218
  a182 := Tryz.isAgg218
  z182 := Tryz.sizeOf218
  v182 := Tryz.zeroValue218
  t183 := Tryz.underlying219
  a183 := Tryz.isAgg219
  z183 := Tryz.sizeOf219
  v183 := Tryz.zeroValue219
  t218 := Tryz.underlying239
  a218 := Tryz.isAgg239
  z218 := Tryz.sizeOf239
  v218 := Tryz.zeroValue239
  t222 := Tryz.underlying243
  a222 := Tryz.isAgg243
  z222 := Tryz.sizeOf243
  v222 := Tryz.zeroValue243
  t228 := Tryz.underlying251
  a228 := Tryz.isAgg251
  z228 := Tryz.sizeOf251
  v228 := Tryz.zeroValue251
  t229 := Tryz.underlying252
  a229 := Tryz.isAgg252
  z229 := Tryz.sizeOf252
  v229 := Tryz.zeroValue252 }
open Go.Sort Go.RowKit in
theorem Tryz.slices_Sort_int (blk off cap : Nat) (zs : List Int) (w : World) (hH : Holds (Value.int .i64) w blk off zs.toArray) (hblk : blk < w.heap.size) (hsz : zs.length < 4611686018427387904) :
    Calls Tryz.prog 171 #[.slice (some ⟨blk, off, none⟩) zs.length cap] w fun e w' =>
      e = .returned (.tuple #[]) ∧ ∃ n os, w' = grow (putRow (Value.int .i64) (Sort.ahead w n) blk off (zs.mergeSort fun x y => decide (x ≤ y)).toArray) os := Any.slices_Sort_int Tryz.lays189 blk off cap zs w hH hblk hsz
theorem Tryz.slices_Sort_int_none (p : Option Addr) (cap : Nat) (w : World) :
    Calls Tryz.prog 171 #[.slice p 0 cap] w fun e w' => e = .returned (.tuple #[]) ∧ w' = w := Any.slices_Sort_int_none Tryz.lays189 p cap w
end Go.Proofs
set_option linter.unusedVariables false
namespace Go.Proofs.YtkcejelmohameaaGreatDoor
set_option maxRecDepth 100000
open Go.RowKit Go.WideShapes

set_option maxHeartbeats 3200000 in
theorem opCols_9e (o : Opm) (a b : Txts) (ia oa pa ra qa ca ca' : Option Addr) (ic oc pc rcc qc ck ck' : Nat) (w : World) (hcs : StrsIs w (.slice oa o.cols.len oc) o.cols.len o.cols.at_) (hos : StrsIs w (.slice pa o.olds.len pc) o.olds.len o.olds.at_) (hrc : StrsIs w (.slice ra o.rc.len rcc) o.rc.len o.rc.at_) (hrr : RowsIs w (.slice qa o.rm qc) o.rm o.rr) (hf : OpFine o) (ha : StrsIs w (.slice ca a.len ck) a.len a.at_) (hb : StrsIs w (.slice ca' b.len ck') b.len b.at_) (hma : a.len ≤ 8) (hmb : b.len ≤ 8) (hT : Tabs w) (hk : o.kind = 9) (hp : o.part.size = 0) :
    Calls Tryz.prog 14 #[.agg #[.int .i64 9, .slice ia o.nin ic, .string o.new, .slice oa o.cols.len oc, .slice pa o.olds.len pc, .string o.part, .string o.name, .int .i64 o.n, .int .i64 o.axis, .int .i64 o.tk, .string o.tn, .slice ra o.rc.len rcc, .slice qa o.rm qc], .slice ca a.len ck, .slice ca' b.len ck'] w fun e w' => OpR o a b w e w' := by
  have HOWN : ownF o = 0 := by unfold ownF; rw [hk]; rfl
  have hN : namB o a b = (allT a o.cols && (decide (o.part.size = 0) || cnB a o.part)) := by unfold namB; rw [hk]; rfl
  have hO : outC o a b = appS a (onC o.new) := by unfold outC; rw [hk]; rfl
  have hE := opE_of (a := a) (b := b) HOWN
  rw [hN] at hE
  rw [decide_eq_true hp, Bool.true_or, Bool.and_true] at hE
  have e1 := isEmpty_yes hp
  have e2 := sizeE0 hp
  rw [e2]
  have CT1 : Hid (∀ W, Below w.heap.size w W → Calls Tryz.prog 17 #[.slice ca a.len ck, .slice oa o.cols.len oc] W fun e w' => e = .returned (.bool (allT a o.cols)) ∧ w' = W) := fun W hW => allThere_is _ _ a o.cols W (ha.below hW) (hcs.below hW)
  have CX : Hid (∀ W bb x, Below w.heap.size w W → W.cell? ⟨bb, 0, none⟩ = some (.slice ca a.len ck) → W.cell? ⟨bb, 1, none⟩ = some x → StrsIs W x (onC o.new).len (onC o.new).at_ → bb < W.heap.size → Calls Tryz.prog 16 #[.slice (some ⟨bb, 0, none⟩) 2 2] W fun e w' => (∃ x y, e = .returned (.slice x (appS a (onC o.new)).len y) ∧ StrsIs w' (.slice x (appS a (onC o.new)).len y) (appS a (onC o.new)).len (appS a (onC o.new)).at_) ∧ Below W.heap.size W w') := fun W bb x hW k0 k1 hx hbb => (texts_two bb 0 2 _ _ a (onC o.new) W (Nat.le_refl _) (by unfold maxLen; omega) hbb k0 k1 (ha.below hW) hx (by show (a.len + 1) * 16 ≤ _; omega)).mono (by
    rintro e w' ⟨u, rfl, h1, ⟨x, y, rfl⟩, h2⟩
    exact ⟨⟨x, y, rfl, h1.is⟩, h2⟩)
  cases c0 : (allT a o.cols) with
  | false =>
    have HE := hidK (show opE o a b = 9 by rw [hE]; simp [c0])
    rw [c0] at CT1
    clear hE hN hO HOWN c0
    clear hcs hos hrc hrr hf ha hb hT hk hma hmb hp
    go_enter Tryz.func14, Tryz.ntmps14
    go_wp2_with (first
      | (go_at_call 17; refine (CT1.out _ ?_).mono ?_; (· (focus (repeat (first | exact Below.refl _ _ | exact Hid.out (by assumption) | refine Below.setCell ?_ (by first | omega | (simp <;> omega)) _ | refine Below.alloc ?_ (by first | omega | (simp <;> omega)) _)))); rintro e w' ⟨rfl, hww⟩; obtain rfl := hww.symm; clear hww CT1)
      | fail)
    refine bodyPost_ret (v := .tuple #[.slice none 0 0, .int .i64 9]) (by simp [results, Tryz.results14, go_sem] <;> omega) rfl (OpR.bad HE.out (by decide) ?_)
    (focus (repeat (first | exact Below.refl _ _ | exact Hid.out (by assumption) | refine Below.setCell ?_ (by first | omega | (simp <;> omega)) _ | refine Below.alloc ?_ (by first | omega | (simp <;> omega)) _)))
  | true =>
    have HE := hidK (show opE o a b = 0 by rw [hE]; simp [c0])
    rw [c0] at CT1
    have HO := hidK hO
    clear hE hN hO HOWN c0
    clear hcs hos hrc hrr hf ha hb hT hk hma hmb
    go_enter Tryz.func14, Tryz.ntmps14
    go_wp2_with (first
      | (go_at_call 17; refine (CT1.out _ ?_).mono ?_; (· (focus (repeat (first | exact Below.refl _ _ | exact Hid.out (by assumption) | refine Below.setCell ?_ (by first | omega | (simp <;> omega)) _ | refine Below.alloc ?_ (by first | omega | (simp <;> omega)) _)))); rintro e w' ⟨rfl, hww⟩; obtain rfl := hww.symm; clear hww CT1)
      | (go_at_call 16; refine (CX.out _ _ (.slice (some ⟨w.heap.size + 1, 0, none⟩) 1 1) ?_ ?_ ?_ ?_ ?_).mono ?_; (· (focus (repeat (first | exact Below.refl _ _ | exact Hid.out (by assumption) | refine Below.setCell ?_ (by first | omega | (simp <;> omega)) _ | refine Below.alloc ?_ (by first | omega | (simp <;> omega)) _)))); (· simp [go_sem]); (· simp [go_sem]); (· exact (strs1 (kNew (by simp))).below ((Below.refl _ _).alloc (Nat.le_refl _) _)); (· simp); rintro e w9 ⟨⟨x9, y9, rfl, hs9⟩, hb9⟩; have HS9 := hidK hs9; have HB9 : Hid (Below w.heap.size w w9) := Below.trans (by (focus (repeat (first | exact Below.refl _ _ | exact Hid.out (by assumption) | refine Below.setCell ?_ (by first | omega | (simp <;> omega)) _ | refine Below.alloc ?_ (by first | omega | (simp <;> omega)) _)))) (hb9.mono (by first | omega | (simp <;> omega))); clear hb9 hs9 CX)
      | fail)
    refine bodyPost_ret (v := .tuple #[.slice x9 (appS a (onC o.new)).len y9, .int .i64 0]) (by simp [results, Tryz.results14, go_sem] <;> omega) rfl ⟨_, by rw [HE.out], fun _ => ⟨_, _, by rw [HO.out], by rw [HO.out]; exact HS9.out⟩, HB9.out⟩
set_option maxHeartbeats 3200000 in
theorem opCols_9n (o : Opm) (a b : Txts) (ia oa pa ra qa ca ca' : Option Addr) (ic oc pc rcc qc ck ck' : Nat) (w : World) (hcs : StrsIs w (.slice oa o.cols.len oc) o.cols.len o.cols.at_) (hos : StrsIs w (.slice pa o.olds.len pc) o.olds.len o.olds.at_) (hrc : StrsIs w (.slice ra o.rc.len rcc) o.rc.len o.rc.at_) (hrr : RowsIs w (.slice qa o.rm qc) o.rm o.rr) (hf : OpFine o) (ha : StrsIs w (.slice ca a.len ck) a.len a.at_) (hb : StrsIs w (.slice ca' b.len ck') b.len b.at_) (hma : a.len ≤ 8) (hmb : b.len ≤ 8) (hT : Tabs w) (hk : o.kind = 9) (hp : ¬ o.part.size = 0) :
    Calls Tryz.prog 14 #[.agg #[.int .i64 9, .slice ia o.nin ic, .string o.new, .slice oa o.cols.len oc, .slice pa o.olds.len pc, .string o.part, .string o.name, .int .i64 o.n, .int .i64 o.axis, .int .i64 o.tk, .string o.tn, .slice ra o.rc.len rcc, .slice qa o.rm qc], .slice ca a.len ck, .slice ca' b.len ck'] w fun e w' => OpR o a b w e w' := by
  have HOWN : ownF o = 0 := by unfold ownF; rw [hk]; rfl
  have hN : namB o a b = (allT a o.cols && (decide (o.part.size = 0) || cnB a o.part)) := by unfold namB; rw [hk]; rfl
  have hO : outC o a b = appS a (onC o.new) := by unfold outC; rw [hk]; rfl
  have hE := opE_of (a := a) (b := b) HOWN
  rw [hN] at hE
  rw [decide_eq_false hp, Bool.false_or] at hE
  have e1 := isEmpty_no hp
  have CT1 : Hid (∀ W, Below w.heap.size w W → Calls Tryz.prog 17 #[.slice ca a.len ck, .slice oa o.cols.len oc] W fun e w' => e = .returned (.bool (allT a o.cols)) ∧ w' = W) := fun W hW => allThere_is _ _ a o.cols W (ha.below hW) (hcs.below hW)
  have CH1 : Hid (∀ W, Below w.heap.size w W → Calls Tryz.prog 73 #[.slice ca a.len ck, .string o.part] W fun e w' => e = .returned (.bool (cnB a o.part)) ∧ w' = W) := fun W hW => hasTxt_is _ _ _ _ W (ha.below hW)
  have CX : Hid (∀ W bb x, Below w.heap.size w W → W.cell? ⟨bb, 0, none⟩ = some (.slice ca a.len ck) → W.cell? ⟨bb, 1, none⟩ = some x → StrsIs W x (onC o.new).len (onC o.new).at_ → bb < W.heap.size → Calls Tryz.prog 16 #[.slice (some ⟨bb, 0, none⟩) 2 2] W fun e w' => (∃ x y, e = .returned (.slice x (appS a (onC o.new)).len y) ∧ StrsIs w' (.slice x (appS a (onC o.new)).len y) (appS a (onC o.new)).len (appS a (onC o.new)).at_) ∧ Below W.heap.size W w') := fun W bb x hW k0 k1 hx hbb => (texts_two bb 0 2 _ _ a (onC o.new) W (Nat.le_refl _) (by unfold maxLen; omega) hbb k0 k1 (ha.below hW) hx (by show (a.len + 1) * 16 ≤ _; omega)).mono (by
    rintro e w' ⟨u, rfl, h1, ⟨x, y, rfl⟩, h2⟩
    exact ⟨⟨x, y, rfl, h1.is⟩, h2⟩)
  cases c0 : (allT a o.cols) with
  | false =>
    have HE := hidK (show opE o a b = 9 by rw [hE]; simp [c0])
    rw [c0] at CT1
    clear hE hN hO HOWN c0
    clear hcs hos hrc hrr hf ha hb hT hk hma hmb hp
    go_enter Tryz.func14, Tryz.ntmps14
    go_wp2_with (first
      | (go_at_call 17; refine (CT1.out _ ?_).mono ?_; (· (focus (repeat (first | exact Below.refl _ _ | exact Hid.out (by assumption) | refine Below.setCell ?_ (by first | omega | (simp <;> omega)) _ | refine Below.alloc ?_ (by first | omega | (simp <;> omega)) _)))); rintro e w' ⟨rfl, hww⟩; obtain rfl := hww.symm; clear hww CT1)
      | fail)
    refine bodyPost_ret (v := .tuple #[.slice none 0 0, .int .i64 9]) (by simp [results, Tryz.results14, go_sem] <;> omega) rfl (OpR.bad HE.out (by decide) ?_)
    (focus (repeat (first | exact Below.refl _ _ | exact Hid.out (by assumption) | refine Below.setCell ?_ (by first | omega | (simp <;> omega)) _ | refine Below.alloc ?_ (by first | omega | (simp <;> omega)) _)))
  | true =>
    cases c1 : (cnB a o.part) with
    | false =>
      have HE := hidK (show opE o a b = 9 by rw [hE]; simp [c0, c1])
      rw [c0] at CT1
      rw [c1] at CH1
      clear hE hN hO HOWN c0 c1
      clear hcs hos hrc hrr hf ha hb hT hk hma hmb hp
      go_enter Tryz.func14, Tryz.ntmps14
      go_wp2_with (first
        | (go_at_call 17; refine (CT1.out _ ?_).mono ?_; (· (focus (repeat (first | exact Below.refl _ _ | exact Hid.out (by assumption) | refine Below.setCell ?_ (by first | omega | (simp <;> omega)) _ | refine Below.alloc ?_ (by first | omega | (simp <;> omega)) _)))); rintro e w' ⟨rfl, hww⟩; obtain rfl := hww.symm; clear hww CT1)
        | (go_at_call 73; refine (CH1.out _ ?_).mono ?_; (· (focus (repeat (first | exact Below.refl _ _ | exact Hid.out (by assumption) | refine Below.setCell ?_ (by first | omega | (simp <;> omega)) _ | refine Below.alloc ?_ (by first | omega | (simp <;> omega)) _)))); rintro e w' ⟨rfl, hww⟩; obtain rfl := hww.symm; clear hww CH1)
        | fail)
      refine bodyPost_ret (v := .tuple #[.slice none 0 0, .int .i64 9]) (by simp [results, Tryz.results14, go_sem] <;> omega) rfl (OpR.bad HE.out (by decide) ?_)
      (focus (repeat (first | exact Below.refl _ _ | exact Hid.out (by assumption) | refine Below.setCell ?_ (by first | omega | (simp <;> omega)) _ | refine Below.alloc ?_ (by first | omega | (simp <;> omega)) _)))
    | true =>
      have HE := hidK (show opE o a b = 0 by rw [hE]; simp [c0, c1])
      rw [c0] at CT1
      rw [c1] at CH1
      have HO := hidK hO
      clear hE hN hO HOWN c0 c1
      clear hcs hos hrc hrr hf ha hb hT hk hma hmb
      go_enter Tryz.func14, Tryz.ntmps14
      go_wp2_with (first
        | (go_at_call 17; refine (CT1.out _ ?_).mono ?_; (· (focus (repeat (first | exact Below.refl _ _ | exact Hid.out (by assumption) | refine Below.setCell ?_ (by first | omega | (simp <;> omega)) _ | refine Below.alloc ?_ (by first | omega | (simp <;> omega)) _)))); rintro e w' ⟨rfl, hww⟩; obtain rfl := hww.symm; clear hww CT1)
        | (go_at_call 73; refine (CH1.out _ ?_).mono ?_; (· (focus (repeat (first | exact Below.refl _ _ | exact Hid.out (by assumption) | refine Below.setCell ?_ (by first | omega | (simp <;> omega)) _ | refine Below.alloc ?_ (by first | omega | (simp <;> omega)) _)))); rintro e w' ⟨rfl, hww⟩; obtain rfl := hww.symm; clear hww CH1)
        | (go_at_call 16; refine (CX.out _ _ (.slice (some ⟨w.heap.size + 1, 0, none⟩) 1 1) ?_ ?_ ?_ ?_ ?_).mono ?_; (· (focus (repeat (first | exact Below.refl _ _ | exact Hid.out (by assumption) | refine Below.setCell ?_ (by first | omega | (simp <;> omega)) _ | refine Below.alloc ?_ (by first | omega | (simp <;> omega)) _)))); (· simp [go_sem]); (· simp [go_sem]); (· exact (strs1 (kNew (by simp))).below ((Below.refl _ _).alloc (Nat.le_refl _) _)); (· simp); rintro e w9 ⟨⟨x9, y9, rfl, hs9⟩, hb9⟩; have HS9 := hidK hs9; have HB9 : Hid (Below w.heap.size w w9) := Below.trans (by (focus (repeat (first | exact Below.refl _ _ | exact Hid.out (by assumption) | refine Below.setCell ?_ (by first | omega | (simp <;> omega)) _ | refine Below.alloc ?_ (by first | omega | (simp <;> omega)) _)))) (hb9.mono (by first | omega | (simp <;> omega))); clear hb9 hs9 CX)
        | fail)
      refine bodyPost_ret (v := .tuple #[.slice x9 (appS a (onC o.new)).len y9, .int .i64 0]) (by simp [results, Tryz.results14, go_sem] <;> omega) rfl ⟨_, by rw [HE.out], fun _ => ⟨_, _, by rw [HO.out], by rw [HO.out]; exact HS9.out⟩, HB9.out⟩
end Go.Proofs.YtkcejelmohameaaGreatDoor
set_option linter.unusedVariables false
namespace Go.Proofs.YtkcejelmohameaaGreatDoor
set_option maxRecDepth 100000
open Go.RowKit Go.WideShapes

set_option maxHeartbeats 1600000 in
theorem rank_cols (c q l : Value) (name part : ByteArray) (n m ko : Nat) (C O : Nat → ByteArray) (R : Nat → Row) (w : World) (hc : StrsIs w c n C) (hq : RowsIs w q m R) (hf : StrsFine n C) (hg : RowsFine m R) (hl : StrsIs w l ko O) (hfl : StrsFine ko O) (hT : Tabs w) (h0 : relF C n R m = 0) (hfo : foundB C n O ko = false) :
    Calls Tryz.prog 106 #[.agg #[c, q], .string name, l, .string part] w fun e w' => e = .returned (.tuple #[.agg #[.slice none 0 0, .slice none 0 0], .int .i64 9]) ∧ Below w.heap.size w w' := by
  have HW : Hid (∀ {W : World} {o o' : Obj}, Below (w.heap.size + 2) ((w.alloc o).alloc o') W → Below w.heap.size w W) := fun h => (below_two _ _).trans (h.mono (by omega))
  have C1 : Hid (∀ o o', Calls Tryz.prog 93 #[.agg #[c, q]] ((w.alloc o).alloc o') fun e w' => e = .returned (.int .i64 0) ∧ Below (w.heap.size + 2) ((w.alloc o).alloc o') w') := fun o o' => by
    have h := relCheck_is c q n m C R _ (hc.below (below_two o o')) (hq.below (below_two o o')) hf hg (Utf8Tabs_below hT (below_two o o'))
    rw [h0] at h
    rwa [show ((w.alloc o).alloc o').heap.size = w.heap.size + 2 by simp] at h
  obtain ⟨t, t1, t2, t3⟩ := found_no hfo
  have CC : Hid (∀ W, Below w.heap.size w W → Calls Tryz.prog 143 #[c, l] W fun e w' => e = .returned (.tuple #[.slice none 0 0, .int .i64 9]) ∧ Below W.heap.size W w') := fun W hW => columns_no c l n ko C O (prP C n O) W (hc.below hW) (hl.below hW) t t1 t3 t2 hfl.1
  obtain ⟨qa, qcap, rfl, _⟩ := hq
  obtain ⟨ca, ccap, rfl, _⟩ := hc
  obtain ⟨la, lcap, rfl, _⟩ := hl
  clear hf hg hT hfl h0 hfo t1 t2 t3
  go_enter Tryz.func106, Tryz.ntmps106
  go_wp2_with (first
    | (go_at_call 93; refine (C1.out _ _).mono ?_; rintro e w1 ⟨rfl, hb1⟩; have HB1 : Hid (Below (w.heap.size + 2) ((w.alloc (.cells #[.slice ca n ccap, .slice qa m qcap] 40)).alloc (.cells #[.slice none 0 0, .slice none 0 0] 40)) w1) := hb1; obtain ⟨x0, x1, x2, x3, x4, x5, x6⟩ := box2r hb1; have x7 : w.heap.size < w1.heap.size := Nat.lt_of_succ_lt x6; clear hb1)
    | (go_at_call 143; refine (CC.out _ (HW.out HB1.out)).mono ?_; rintro e w2 ⟨rfl, hb2⟩; have HB2 : Hid (Below (w.heap.size + 2) ((w.alloc (.cells #[.slice ca n ccap, .slice qa m qcap] 40)).alloc (.cells #[.slice none 0 0, .slice none 0 0] 40)) w2) := HB1.out.trans (hb2.mono (by omega)); clear x0 x1 x2 x3 x4 x5 x6 x7; obtain ⟨x0, x1, x2, x3, x4, x5, x6⟩ := box2r HB2.out; have x7 : w.heap.size < w2.heap.size := Nat.lt_of_succ_lt x6; clear hb2))
  exact bodyPost_ret (v := .tuple #[.agg #[.slice none 0 0, .slice none 0 0], .int .i64 9]) (by simp [results, Tryz.results106, go_sem, x2, x3]) rfl ⟨rfl, ((HW.out HB2.out).setCell (by simp <;> omega) _).setCell (by simp <;> omega) _⟩
set_option maxHeartbeats 1600000 in
theorem rank_pcol (c q l : Value) (name part : ByteArray) (n m ko : Nat) (C O : Nat → ByteArray) (R : Nat → Row) (w : World) (hc : StrsIs w c n C) (hq : RowsIs w q m R) (hf : StrsFine n C) (hg : RowsFine m R) (hl : StrsIs w l ko O) (hfl : StrsFine ko O) (hT : Tabs w) (h0 : relF C n R m = 0) (hfo : foundB C n O ko = true) (hpe : part.toList.isEmpty = false) (hcol : colI C n part = -1) :
    Calls Tryz.prog 106 #[.agg #[c, q], .string name, l, .string part] w fun e w' => e = .returned (.tuple #[.agg #[.slice none 0 0, .slice none 0 0], .int .i64 9]) ∧ Below w.heap.size w w' := by
  have HW : Hid (∀ {W : World} {o o' : Obj}, Below (w.heap.size + 2) ((w.alloc o).alloc o') W → Below w.heap.size w W) := fun h => (below_two _ _).trans (h.mono (by omega))
  have C1 : Hid (∀ o o', Calls Tryz.prog 93 #[.agg #[c, q]] ((w.alloc o).alloc o') fun e w' => e = .returned (.int .i64 0) ∧ Below (w.heap.size + 2) ((w.alloc o).alloc o') w') := fun o o' => by
    have h := relCheck_is c q n m C R _ (hc.below (below_two o o')) (hq.below (below_two o o')) hf hg (Utf8Tabs_below hT (below_two o o'))
    rw [h0] at h
    rwa [show ((w.alloc o).alloc o').heap.size = w.heap.size + 2 by simp] at h
  have CC : Hid (∀ W, Below w.heap.size w W → Calls Tryz.prog 143 #[c, l] W fun e w' => ∃ v, e = .returned (.tuple #[v, .int .i64 0]) ∧ (∃ a' c', v = .slice a' (keptN (firstB (prP C n O)) ko) c') ∧ Below W.heap.size W w') := fun W hW => (columns_yes c l n ko C O (prP C n O) W (hc.below hW) (hl.below hW) (fun i hi => (found_yes hfo i hi).1) hfl.1).mono fun e w' ⟨v, h1, _, h3, h4⟩ => ⟨v, h1, h3, h4⟩
  have CCOL : Hid (∀ W, Below w.heap.size w W → Calls Tryz.prog 122 #[c, .string part] W fun e w' => e = .returned (.tuple #[.int .i64 0, .int .i64 9]) ∧ w' = W) := fun W hW => by
    have h := column_is c n C part W (hc.below hW)
    unfold colV colF at h
    rwa [hcol, if_pos (by decide), if_pos (by decide)] at h
  have hmf : ∀ (fn : Fn) (first cap : Array Value) (w : World), (Instr.makeFunc fn first cap).run Tryz.prog w = .ok (.func fn first cap) w := fun _ _ _ _ => rfl
  obtain ⟨qa, qcap, rfl, _⟩ := hq
  obtain ⟨ca, ccap, rfl, _⟩ := hc
  obtain ⟨la, lcap, rfl, _⟩ := hl
  clear hf hg hT hfl h0 hfo hcol
  go_enter Tryz.func106, Tryz.ntmps106
  go_wp2_with (first
    | (go_at_call 93; refine (C1.out _ _).mono ?_; rintro e w1 ⟨rfl, hb1⟩; have HB1 : Hid (Below (w.heap.size + 2) ((w.alloc (.cells #[.slice ca n ccap, .slice qa m qcap] 40)).alloc (.cells #[.slice none 0 0, .slice none 0 0] 40)) w1) := hb1; obtain ⟨x0, x1, x2, x3, x4, x5, x6⟩ := box2r hb1; have x7 : w.heap.size < w1.heap.size := Nat.lt_of_succ_lt x6; clear hb1)
    | (go_at_call 143; refine (CC.out _ (HW.out HB1.out)).mono ?_; rintro e w2 ⟨v2, rfl, ⟨pa, pc, rfl⟩, hb2⟩; have HB2 : Hid (Below (w.heap.size + 2) ((w.alloc (.cells #[.slice ca n ccap, .slice qa m qcap] 40)).alloc (.cells #[.slice none 0 0, .slice none 0 0] 40)) w2) := HB1.out.trans (hb2.mono (by omega)); clear x0 x1 x2 x3 x4 x5 x6 x7; obtain ⟨x0, x1, x2, x3, x4, x5, x6⟩ := box2r HB2.out; have x7 : w.heap.size < w2.heap.size := Nat.lt_of_succ_lt x6; clear hb2)
    | (go_at_call 122; refine (CCOL.out _ (HW.out HB2.out)).mono ?_; rintro e w3 ⟨rfl, hw3⟩; obtain rfl := hw3.symm))
  refine bodyPost_ret (v := .tuple #[.agg #[.slice none 0 0, .slice none 0 0], .int .i64 9]) (by simp [results, Tryz.results106, go_sem, x2, x3, x6]) rfl ⟨rfl, ?_⟩
  exact (((HW.out HB2.out).setCell (by simp <;> omega) _).setCell (by simp <;> omega) _).alloc (by simp <;> omega) _
end Go.Proofs.YtkcejelmohameaaGreatDoor
set_option linter.unusedVariables false
namespace Go.Proofs.YtkcejelmohameaaGreatDoor
set_option maxRecDepth 100000
open Go.RowKit Go.WideShapes

set_option maxHeartbeats 1600000 in
theorem meeting_nil (M : Nat) (axis tk : Int) (tn : ByteArray) (w : World) (hM : IMap w M noV) : Calls Tryz.prog 130 #[.agg #[.slice none 0 0, .slice none 0 0, .map (some M)], .int .i64 axis, .agg #[.int .i64 tk, .string tn]] w fun e w' => (∃ u, e = .returned u) ∧ Below w.heap.size w w' := by
  have CS : Hid (∀ W, Calls Tryz.prog 171 #[.slice none 0 0] W fun e w' => e = .returned (.tuple #[]) ∧ w' = W) := fun W => Tryz.slices_Sort_int_none none 0 W
  obtain ⟨W2, hW2⟩ : ∃ W, W = (w.alloc (.cells #[.slice none 0 0, .slice none 0 0, .map (some M)] 148)).alloc (.cells #[.int .i64 tk, .string tn] 37) := ⟨_, rfl⟩
  have HM2 : Hid (IMap W2 M noV) := by rw [hW2]; exact (hM.alloc _).alloc _
  have HB2 : Hid (Below w.heap.size w W2) := by rw [hW2]; exact ((Below.refl _ _).alloc (Nat.le_refl _) _).alloc (by simp) _
  obtain ⟨x0, x1, x2, xl⟩ := w3 (M := M) (show W2.heap[w.heap.size]? = _ by rw [hW2]; exact kOld (kNew rfl))
  clear hM
  go_enter Tryz.func130, Tryz.ntmps130
  go_upto_region 2 with fail
  rw [← hW2]
  clear hW2
  go_wp2_with (refine wpList_irange rfl (.tmp 10) 146 163 rfl Tryz.underlying146 M noV (by simp [Act.eval]) HM2.out ?_; intro w4 left4 hr4 hb4; have HR4 := hidK hr4; have HB4 : Hid (Below w.heap.size w w4) := HB2.out.trans (hb4.mono HB2.out.size); clear hr4 hb4)
  generalize hrr : W2.heap.size = r at *
  clear hrr x0 x1 x2 xl
  go_frame
  go_loopw [7, 12] (fun v _ wr => v = .slice none 0 0 ∧ (∃ (D : Int → Prop) (left : Nat), IRng wr r M noV D left) ∧ Below w.heap.size w wr) (fun _ _ wr => 0)
  case atStart => exact ⟨rfl, ⟨_, _, HR4.out⟩, HB4.out⟩
  case round =>
    obtain ⟨rfl, ⟨D, left, hrg⟩, hbr⟩ := hrel
    have HR := hidK hrg
    have HBR := hidK hbr
    clear hrg hbr
    go_wp2_with (refine wpList_inext rfl (.tmp 11) rfl r M noV D left (by simp [Act.eval]) HR.out ?_ ?_)
    rotate_left
    · intro x v w5 left5 hx
      cases hx
    · intro _
      go_wp2_with (go_at_call 171; refine (CS.out _).mono ?_; rintro e w' ⟨rfl, hww⟩; obtain rfl := hww.symm; clear hww CS)
      go_ret
      exact ⟨⟨_, rfl⟩, HBR.out⟩
set_option maxHeartbeats 1600000 in
theorem inOrder_nil (w : World) : Calls Tryz.prog 128 #[.slice none 0 0] w fun e w' => e = .returned (.slice none 0 0) ∧ w' = w := by
  have C1 : Hid (∀ W, Calls Tryz.prog 170 #[.slice none 0 0] W fun e w' => e = .returned (.slice none 0 0) ∧ w' = W) := fun W => Tryz.slices_Clone_int_nil 0 0 W
  have C2 : Hid (∀ W, Calls Tryz.prog 171 #[.slice none 0 0] W fun e w' => e = .returned (.tuple #[]) ∧ w' = W) := fun W => Tryz.slices_Sort_int_none none 0 W
  have C3 : Hid (∀ W, Calls Tryz.prog 172 #[.slice none 0 0] W fun e w' => e = .returned (.slice none 0 0) ∧ w' = W) := fun W => Tryz.slices_Compact_int_empty none 0 W
  go_enter Tryz.func128, Tryz.ntmps128
  go_wp2_with (first
    | (go_at_call 170; refine (C1.out _).mono ?_; rintro e w' ⟨rfl, hww⟩; obtain rfl := hww.symm; clear hww C1)
    | (go_at_call 171; refine (C2.out _).mono ?_; rintro e w' ⟨rfl, hww⟩; obtain rfl := hww.symm; clear hww C2)
    | (go_at_call 172; refine (C3.out _).mono ?_; rintro e w' ⟨rfl, hww⟩; obtain rfl := hww.symm; clear hww C3))
  go_ret
  exact ⟨rfl, rfl⟩
set_option maxHeartbeats 1600000 in
theorem reach_nil (axis tk : Int) (tn : ByteArray) (w : World) (h1 : 1 ≤ axis) (h2 : axis ≤ 12) : Calls Tryz.prog 96 #[.slice none 0 0, .slice none 0 0, .int .i64 axis, .agg #[.int .i64 tk, .string tn]] w fun e w' => (∃ u, e = .returned u) ∧ Below w.heap.size w w' := by
  have hmm := @run_makeMap Tryz.prog
  have CO : Hid (∀ W, Calls Tryz.prog 128 #[.slice none 0 0] W fun e w' => e = .returned (.slice none 0 0) ∧ w' = W) := fun W => inOrder_nil W
  have CA : Hid (∀ W M, Calls Tryz.prog 129 #[.agg #[.slice none 0 0, .slice none 0 0, .map (some M)], .int .i64 axis] W fun e w' => e = .returned (.tuple #[]) ∧ Below W.heap.size W w') := fun W M => along_nil M axis W h1 h2
  have CM : Hid (∀ W M, IMap W M noV → Calls Tryz.prog 130 #[.agg #[.slice none 0 0, .slice none 0 0, .map (some M)], .int .i64 axis, .agg #[.int .i64 tk, .string tn]] W fun e w' => (∃ u, e = .returned u) ∧ Below W.heap.size W w') := fun W M h => meeting_nil M axis tk tn W h
  go_enter Tryz.func96, Tryz.ntmps96
  go_upto_region 2 with (go_at_call 128; refine (CO.out _).mono ?_; rintro e w' ⟨rfl, hww⟩; obtain rfl := hww.symm; clear hww CO)
  obtain ⟨W1, hW1⟩ : ∃ W, W = (((w.alloc (.cells #[.int .i64 tk, .string tn] 37)).alloc (.map #[] 0)).alloc (.cells #[.slice none 0 0, .slice none 0 0, .map (some (w.heap.size + 1))] 148)) := ⟨_, rfl⟩
  obtain ⟨M, hM⟩ : ∃ M, M = w.heap.size + 1 := ⟨_, rfl⟩
  have HM1 : Hid (IMap W1 M noV) := by
    have h := IMap.made (w.alloc (.cells #[.int .i64 tk, .string tn] 37))
    rw [show (w.alloc (.cells #[.int .i64 tk, .string tn] 37)).heap.size = w.heap.size + 1 by simp, ← hM] at h
    rw [hW1]
    exact h.alloc _
  have HB1 : Hid (Below w.heap.size w W1) := by rw [hW1]; (focus (repeat (first | exact Below.refl _ _ | exact Hid.out (by assumption) | refine Below.setCell ?_ (by first | omega | (simp <;> omega)) _ | refine Below.alloc ?_ (by first | omega | (simp <;> omega)) _)))
  have HT1 : Hid (W1.heap[w.heap.size]? = some (.cells #[.int .i64 tk, .string tn] 37)) := by rw [hW1]; exact kOld (kOld (kNew rfl))
  have HX1 : Hid (W1.heap[M + 1]? = some (.cells #[.slice none 0 0, .slice none 0 0, .map (some M)] 148)) := by rw [hW1, ← hM]; exact kNew (by rw [hM]; simp)
  have HS : Hid (∀ W, Below W1.heap.size W1 W → (W.cell? ⟨w.heap.size, 0, none⟩ = some (.int .i64 tk) ∧ W.cell? ⟨w.heap.size, 1, none⟩ = some (.string tn)) ∧ (W.cell? ⟨M + 1, 0, none⟩ = some (.slice none 0 0) ∧ W.cell? ⟨M + 1, 1, none⟩ = some (.slice none 0 0) ∧ W.cell? ⟨M + 1, 2, none⟩ = some (.map (some M)))) := fun W hW => by
    obtain ⟨y0, y1, y2, _⟩ := w3 ((hW.block _ (kLt HX1.out)).trans HX1.out)
    obtain ⟨z0, z1, _⟩ := k2 ((hW.block _ (kLt HT1.out)).trans HT1.out)
    exact ⟨⟨z0, z1⟩, y0, y1, y2⟩
  rw [← hW1]
  rw [← hM]
  clear hW1 hM
  obtain ⟨⟨t0, t1⟩, x0, x1, x2⟩ := HS.out W1 (Below.refl _ _)
  go_wp2_with (first
    | (go_at_call 129; refine (CA.out _ _).mono ?_; rintro e w2 ⟨rfl, hb2⟩; have HB2 := hidK hb2; clear t0 t1 x0 x1 x2; obtain ⟨⟨t0, t1⟩, x0, x1, x2⟩ := HS.out w2 hb2; clear hb2 CA)
    | (go_at_call 130; refine (CM.out _ _ (HM1.out.keep (HB2.out.block _ HM1.out.lt))).mono ?_; rintro e w3 ⟨⟨u, rfl⟩, hb3⟩; have HB3 := hidK (HB1.out.trans ((HB2.out.trans (hb3.mono HB2.out.size)).mono HB1.out.size)); clear hb3 CM))
  refine bodyPost_ret (v := u) (by simp [results, Tryz.results96, go_sem]) rfl ⟨⟨_, rfl⟩, HB3.out⟩
set_option maxHeartbeats 1600000 in
theorem storeCheck_nil (w : World) : Calls Tryz.prog 127 #[.slice none 0 0] w fun e w' => e = .returned (.int .i64 0) ∧ w' = w := by
  go_enter Tryz.func127, Tryz.ntmps127
  go_wp2
  refine LoopN.wp 1 (LoopN.next ?_)
  go_wp2
  go_ret
  exact ⟨rfl, rfl⟩
set_option maxHeartbeats 1600000 in
theorem check_nil (axis tk : Int) (tn : ByteArray) (w : World) : Calls Tryz.prog 95 #[.slice none 0 0, .slice none 0 0, .int .i64 axis, .agg #[.int .i64 tk, .string tn]] w fun e w' => e = .returned (.int .i64 (if stepB axis tk = true then 0 else 3)) ∧ Below w.heap.size w w' := by
  have CC : Hid (∀ W, Calls Tryz.prog 127 #[.slice none 0 0] W fun e w' => e = .returned (.int .i64 0) ∧ w' = W) := fun W => storeCheck_nil W
  by_cases hs : stepB axis tk = true
  · rw [if_pos hs]
    obtain ⟨⟨a1, a2⟩, a3, a4⟩ := of_decide_eq_true hs
    have n1 : ¬ axis < 1 := by omega
    have n2 : ¬ (12 : Int) < axis := by omega
    have n3 : ¬ tk < 1 := by omega
    have n4 : ¬ (5 : Int) < tk := by omega
    clear hs a1 a2 a3 a4
    go_enter Tryz.func95, Tryz.ntmps95
    go_wp2_with (go_at_call 127; refine (CC.out _).mono ?_; rintro e w' ⟨rfl, hww⟩; obtain rfl := hww.symm; clear hww CC)
    refine LoopN.wp 1 (LoopN.next ?_)
    go_wp2
    go_ret
    exact ⟨rfl, (Below.refl _ _).alloc (Nat.le_refl _) _⟩
  · rw [if_neg hs]
    have hn : ¬ ((1 ≤ axis ∧ axis ≤ 12) ∧ 1 ≤ tk ∧ tk ≤ 5) := fun h => hs (decide_eq_true h)
    clear hs
    by_cases n1 : axis < 1
    · clear hn
      go_enter Tryz.func95, Tryz.ntmps95
      go_wp2_with (go_at_call 127; refine (CC.out _).mono ?_; rintro e w' ⟨rfl, hww⟩; obtain rfl := hww.symm; clear hww CC)
      go_ret
      exact ⟨rfl, (Below.refl _ _).alloc (Nat.le_refl _) _⟩
    by_cases n2 : (12 : Int) < axis
    · clear hn
      go_enter Tryz.func95, Tryz.ntmps95
      go_wp2_with (go_at_call 127; refine (CC.out _).mono ?_; rintro e w' ⟨rfl, hww⟩; obtain rfl := hww.symm; clear hww CC)
      go_ret
      exact ⟨rfl, (Below.refl _ _).alloc (Nat.le_refl _) _⟩
    by_cases n3 : tk < 1
    · clear hn
      go_enter Tryz.func95, Tryz.ntmps95
      go_wp2_with (go_at_call 127; refine (CC.out _).mono ?_; rintro e w' ⟨rfl, hww⟩; obtain rfl := hww.symm; clear hww CC)
      go_ret
      exact ⟨rfl, (Below.refl _ _).alloc (Nat.le_refl _) _⟩
    have n4 : (5 : Int) < tk := by omega
    clear hn
    go_enter Tryz.func95, Tryz.ntmps95
    go_wp2_with (go_at_call 127; refine (CC.out _).mono ?_; rintro e w' ⟨rfl, hww⟩; obtain rfl := hww.symm; clear hww CC)
    go_ret
    exact ⟨rfl, (Below.refl _ _).alloc (Nat.le_refl _) _⟩
set_option maxHeartbeats 1600000 in
/-- steps from nothing, over nothing: refused just where there is no such axis or test -/
theorem stepNil : StepNil := by
  intro w axis tk tn htn
  have CC : Hid (∀ W, Calls Tryz.prog 95 #[.slice none 0 0, .slice none 0 0, .int .i64 axis, .agg #[.int .i64 tk, .string tn]] W fun e w' => e = .returned (.int .i64 (if stepB axis tk = true then 0 else 3)) ∧ Below W.heap.size W w') := fun W => check_nil axis tk tn W
  by_cases hs : stepB axis tk = true
  · rw [if_pos hs] at CC ⊢
    obtain ⟨⟨a1, a2⟩, _⟩ := of_decide_eq_true hs
    have CR : Hid (∀ W, Calls Tryz.prog 96 #[.slice none 0 0, .slice none 0 0, .int .i64 axis, .agg #[.int .i64 tk, .string tn]] W fun e w' => (∃ u, e = .returned u) ∧ Below W.heap.size W w') := fun W => reach_nil axis tk tn W a1 a2
    clear hs a1 a2
    go_enter Tryz.func65, Tryz.ntmps65
    go_wp2_with (first
      | (go_at_call 95; refine (CC.out _).mono ?_; rintro e w2 ⟨rfl, hb2⟩; have HB2 : Hid (Below w.heap.size w w2) := ((Below.refl _ _).alloc (Nat.le_refl _) _).trans (hb2.mono (by simp)); have HT2 : Hid (w2.heap[w.heap.size]? = some (.cells #[.int .i64 tk, .string tn] 37)) := (hb2.block _ (by simp)).trans (kNew rfl); obtain ⟨t0, t1, _⟩ := k2 HT2.out; clear hb2 CC)
      | (go_at_call 96; refine (CR.out _).mono ?_; rintro e w3 ⟨⟨u, rfl⟩, hb3⟩; have HB3 := hidK (HB2.out.trans (hb3.mono HB2.out.size)); clear hb3 CR))
    refine bodyPost_ret (v := .tuple #[u, .int .i64 0]) (by simp [results, Tryz.results65, go_sem]) rfl ⟨⟨_, rfl⟩, HB3.out⟩
  · rw [if_neg hs] at CC ⊢
    clear hs
    go_enter Tryz.func65, Tryz.ntmps65
    go_wp2_with (go_at_call 95; refine (CC.out _).mono ?_; rintro e w2 ⟨rfl, hb2⟩; have HB2 : Hid (Below w.heap.size w w2) := ((Below.refl _ _).alloc (Nat.le_refl _) _).trans (hb2.mono (by simp)); clear hb2 CC)
    refine bodyPost_ret (v := .tuple #[.slice none 0 0, .int .i64 3]) (by simp [results, Tryz.results65, go_sem]) rfl ⟨⟨_, rfl⟩, HB2.out⟩
end Go.Proofs.YtkcejelmohameaaGreatDoor
