/-
  PROVED HERE: for every list of events l, the Go law StoreShreds of package pleacherlaw returns true: the program's Shred answers what the document's answer of P2.1 asks, and the argument reads behind the call as it read before. Conditions: the two tables of unicode/utf8 hold what the program's text lays (the card ties them); none of my own.
-/
import Derived.Test.YtpccfjoklinaiaaDoorCards
import Derived.Test.YtpccfjoklinaiaaDoorLaidS
import Derived.Test.YtpccfjoklinaiaaDoorShCode
import Derived.Test.YtpccfjoklinaiaaDoorShRef
import Derived.WalkKit
import Derived.ProofKit
import Derived.OpenShut
import Derived.Laws.AppendOwnNone
import Derived.Deep.DeepHandedRow
import Derived.Deep.DeepWitnessRowRef
import Derived.SizedLaws
set_option linter.unusedVariables false
namespace Go.Proofs.YtpccfjoklinaiaaDoor.storeShreds
open Go.ChangeShapes Go.WideShapes Go.ChangeAt Go.RowKit

theorem own : ownKnob Tryd.prog.godebug = none := by kernel_rfl
theorem laidOut : laidOutB Tryd.prog = true := by kernel_rfl
theorem info44 : (Tryd.prog.info? 44).map (fun i => (i.zero, i.size, i.bytes)) = some (some (.agg #[.int .i64 0, .string ByteArray.empty, .string ByteArray.empty]), 3, 40) := by kernel_rfl
theorem bytes44 : Tryd.prog.bytesOf 44 = 40 := by kernel_rfl

/-- the cells of events, one behind the other -/
def cellOf (E : Nat → Ev) (j : Nat) : Value := if j % 3 = 0 then .int .i64 (E (j / 3)).kind else if j % 3 = 1 then .string (E (j / 3)).name else .string (E (j / 3)).value
def cellsOf (E : Nat → Ev) (n : Nat) : List Value := (List.range (n * 3)).map (cellOf E)
theorem cells_len (E : Nat → Ev) (n : Nat) : (cellsOf E n).length = n * 3 := by simp [cellsOf]
theorem cells_at (E : Nat → Ev) (n j : Nat) (h : j < n * 3) : (cellsOf E n)[j]? = some (cellOf E j) := by simp [cellsOf, h]
theorem cells_in {w : World} {b off n : Nat} {E : Nat → Ev} (hE : EvsAt w b off n E) : ∀ j u, (cellsOf E n)[j]? = some u → w.cell? ((⟨b, off, none⟩ : Addr).add j) = some u := by
  intro j u hj
  have hjl : j < n * 3 := by
    have := (List.getElem?_eq_some_iff.1 hj).1
    rwa [cells_len] at this
  rw [cells_at E n j hjl, Option.some.injEq] at hj
  subst hj
  obtain ⟨h0, h1, h2⟩ := hE (j / 3) (by omega)
  rw [add_plain]
  unfold cellOf
  by_cases c0 : j % 3 = 0
  · rw [if_pos c0, ← h0, show off + j = off + j / 3 * 3 by omega]
  · by_cases c1 : j % 3 = 1
    · rw [if_neg c0, if_pos c1, ← h1, show off + j = off + j / 3 * 3 + 1 by omega]
    · rw [if_neg c0, if_neg c1, ← h2, show off + j = off + j / 3 * 3 + 2 by omega]
theorem cells_one (E : Nat → Ev) (n : Nat) : ∀ u ∈ cellsOf E n, u.oneCell' = true := by
  intro u hu
  obtain ⟨j, _, rfl⟩ := List.mem_map.1 hu
  unfold cellOf
  split
  · rfl
  · split <;> rfl
theorem evs_of_own {w : World} {base g cap n : Nat} {E : Nat → Ev} (h : w.ownsRow base 44 3 (.slice (some ⟨g, 0, none⟩) n cap) n (cellsOf E n)) : EvsAt w g 0 n E := by
  intro i hi
  have c : ∀ r, r < 3 → w.cell? ⟨g, i * 3 + r, none⟩ = some (cellOf E (i * 3 + r)) := fun r hr => by
    rw [h.cellAt _ (by omega), cells_at E n _ (by omega)]
  have c0 := c 0 (by omega)
  have c1 := c 1 (by omega)
  have c2 := c 2 (by omega)
  simp only [cellOf, show (i * 3 + 0) % 3 = 0 by omega, show (i * 3 + 1) % 3 = 1 by omega, show (i * 3 + 2) % 3 = 2 by omega, show (i * 3 + 0) / 3 = i by omega, show (i * 3 + 1) / 3 = i by omega, show (i * 3 + 2) / 3 = i by omega] at c0 c1 c2
  simp only [Nat.zero_add]
  exact ⟨c0, c1, c2⟩

/-- how many nodes are made -/
def shL (E : Nat → Ev) (n : Nat) : Nat := if checkN E n = 0 then (shAt E n).c else 0
theorem shL_err {E : Nat → Ev} {n : Nat} (h : checkN E n ≠ 0) : shL E n = 0 := if_neg h
theorem shL_ok {E : Nat → Ev} {n : Nat} (h : checkN E n = 0) : shL E n = (shAt E n).c := if_pos h
theorem nil_is (w : World) (D : Nat → Nd) : NdsIs w (.slice none 0 0) 0 D := ⟨none, 0, rfl, Nat.le_refl _, Nat.zero_le _, fun h => by omega⟩

/-- a document: what holds of its events -/
theorem checkN_ok {E : Nat → Ev} {n : Nat} (h : checkN E n = 0) : n ≤ 400 ∧ okTo E n ∧ (stAt E n).d = 0 := by
  by_cases hn : 400 < n
  · rw [checkN_size hn] at h; omega
  · have hok : okTo E n := by
      by_cases hall : ∀ j, j < n → errAt E j = 0
      · exact hall
      · have hex : ∃ j, j < n ∧ errAt E j ≠ 0 := Classical.byContradiction fun hc => hall fun j hj => Classical.byContradiction fun he => hc ⟨j, hj, he⟩
        obtain ⟨k, ⟨hk, he⟩, hmin⟩ : ∃ k, (k < n ∧ errAt E k ≠ 0) ∧ ∀ j, j < k → ¬ (j < n ∧ errAt E j ≠ 0) := by
          obtain ⟨j0, hj0⟩ := hex
          induction j0 using Nat.strongRecOn with
          | ind j0 ih =>
            by_cases hs : ∃ j, j < j0 ∧ (j < n ∧ errAt E j ≠ 0)
            · obtain ⟨j, hj, hjj⟩ := hs
              exact ih j hj hjj
            · exact ⟨j0, hj0, fun j hj hjj => hs ⟨j, hj, hjj⟩⟩
        have := checkN_err hn hk (fun j hj => Classical.byContradiction fun hne => hmin j hj ⟨by omega, hne⟩) he
        rw [this] at h
        exact absurd h he
    rw [checkN_end hn hok] at h
    refine ⟨by omega, hok, ?_⟩
    split at h
    · cases h
    · omega

set_option maxHeartbeats 800000 in
theorem shred_err (a : Option Addr) (n cap : Nat) (r : Int) (w : World) (hr : r ≠ 0)
    (hC : Calls Tryd.prog 21 #[.slice a n cap] w fun e w' => e = .returned (.int .i64 r) ∧ Below w.heap.size w w') :
    Calls Tryd.prog 8 #[.slice a n cap] w fun e w' => e = .returned (.tuple #[.slice none 0 0, .int .i64 r]) ∧ Below w.heap.size w w' := by
  have CC : Hid (Calls Tryd.prog 21 #[.slice a n cap] w fun e w' => e = .returned (.int .i64 r) ∧ Below w.heap.size w w') := hC
  have hne2 : (r != 0) = true := by simpa using hr
  clear hr hC
  go_enter Tryd.func8, Tryd.ntmps8
  go_wp2_with (first | (go_at_call 21; refine CC.out.mono ?_; rintro e w1 ⟨rfl, hb1⟩))
  go_ret2
  exact ⟨rfl, hb1⟩
set_option maxHeartbeats 800000 in
theorem shredded_err (a : Option Addr) (n cap : Nat) (r : Int) (w : World) (hr : r ≠ 0)
    (hC : Calls Tryd.prog 23 #[.slice a n cap] w fun e w' => e = .returned (.int .i64 r) ∧ Below w.heap.size w w') :
    Calls Tryd.prog 9 #[.slice a n cap] w fun e w' => e = .returned (.tuple #[.slice none 0 0, .int .i64 r]) ∧ Below w.heap.size w w' := by
  have CC : Hid (Calls Tryd.prog 23 #[.slice a n cap] w fun e w' => e = .returned (.int .i64 r) ∧ Below w.heap.size w w') := hC
  have hne2 : (r != 0) = true := by simpa using hr
  clear hr hC
  go_enter Tryd.func9, Tryd.ntmps9
  go_wp2_with (first | (go_at_call 23; refine CC.out.mono ?_; rintro e w1 ⟨rfl, hb1⟩))
  go_ret2
  exact ⟨rfl, hb1⟩

/-- Shred, and the document's answer to it, at a list of events wherever it lies -/
theorem shred_any (b off n cap : Nat) (E : Nat → Ev) (w : World) (hcap : n ≤ cap) (hm : cap ≤ maxLen) (henv : Env w) (hb0 : b < w.heap.size) (hE : EvsAt w b off n E)
    (hsz : ∀ i, i < n → (E i).name.size ≤ maxLen ∧ (E i).value.size ≤ maxLen) :
    Calls Tryd.prog 8 #[.slice (some ⟨b, off, none⟩) n cap] w fun e w' => ∃ v, e = .returned (.tuple #[v, .int .i64 (checkN E n)]) ∧ NdsIs w' v (shL E n) (doneN (shAt E n)) ∧ Below w.heap.size w w' := by
  have hC := check_any b off n cap E w hcap hm henv hb0 hE hsz
  by_cases h0 : checkN E n = 0
  · obtain ⟨h1, h2, h3⟩ := checkN_ok h0
    rw [h0] at hC
    rw [shL_ok h0, h0]
    exact shred_some b off n cap E w h1 hcap hb0 hE h2 h3 hC
  · rw [shL_err h0]
    refine (shred_err _ n cap _ w h0 hC).mono ?_
    rintro e w' ⟨rfl, hb⟩
    exact ⟨_, rfl, nil_is _ _, hb⟩
theorem done_at {E : Nat → Ev} {n : Nat} (h0 : checkN E n = 0) (j : Nat) : refN (shAt E n) j = doneN (shAt E n) j := by
  obtain ⟨h1, h2, h3⟩ := checkN_ok h0
  obtain ⟨i1, i2, _⟩ := sh_len h2
  refine refN_done ?_ j
  rw [h3] at i2
  have hl := i1.links
  match hst : (shAt E n).st, i2 with
  | [o], _ => rw [hst] at hl; rw [hl.1]
theorem shredded_any (b off n cap : Nat) (E : Nat → Ev) (w : World) (hcap : n ≤ cap) (hm : cap ≤ maxLen) (henv : Env w) (hb0 : b < w.heap.size) (hE : EvsAt w b off n E)
    (hsz : ∀ i, i < n → (E i).name.size ≤ maxLen ∧ (E i).value.size ≤ maxLen) :
    Calls Tryd.prog 9 #[.slice (some ⟨b, off, none⟩) n cap] w fun e w' => ∃ v, e = .returned (.tuple #[v, .int .i64 (checkN E n)]) ∧ NdsIs w' v (shL E n) (doneN (shAt E n)) ∧ Below w.heap.size w w' := by
  have hC := fault_any b off n cap E w hcap hm henv hb0 hE hsz
  by_cases h0 : checkN E n = 0
  · obtain ⟨h1, h2, h3⟩ := checkN_ok h0
    rw [h0] at hC
    rw [shL_ok h0, h0]
    refine (shredded_some b off n cap E w h1 hcap hb0 hE h2 hC).mono ?_
    rintro e w' ⟨v, rfl, hv, hb⟩
    refine ⟨_, rfl, ?_, hb⟩
    have : refN (shAt E n) = doneN (shAt E n) := funext (done_at h0)
    rw [← this]
    exact hv
  · rw [shL_err h0]
    refine (shredded_err _ n cap _ w h0 hC).mono ?_
    rintro e w' ⟨rfl, hb⟩
    exact ⟨_, rfl, nil_is _ _, hb⟩

set_option maxHeartbeats 400000 in
theorem walk_nil (w : World) :
    Calls Tryd.prog 3 #[.slice none 0 0] w fun e w' => e = .returned (.bool true) ∧ Below w.heap.size w w' := by
  obtain ⟨i0, hi0, hz0, hz1, hz2⟩ := info_parts info44
  have CS : Hid (∀ W, Calls Tryd.prog 8 #[.slice none 0 0] W fun e w' => e = .returned (.tuple #[.slice none 0 0, .int .i64 5]) ∧ Below W.heap.size W w') := fun W => shred_err _ _ _ 5 W (by decide) (check_zero _ _ _)
  have CF : Hid (∀ W, Calls Tryd.prog 9 #[.slice none 0 0] W fun e w' => e = .returned (.tuple #[.slice none 0 0, .int .i64 5]) ∧ Below W.heap.size W w') := fun W => shredded_err _ _ _ 5 W (by decide) (fault_zero _ _ _)
  have CM : Hid (∀ W, Calls Tryd.prog 10 #[.slice none 0 0, .slice none 0 0] W fun e w' => e = .returned (.bool true) ∧ Below W.heap.size W w') := fun W => same_is _ _ 0 (fun _ => ⟨0, ByteArray.empty, ByteArray.empty, 0, 0, 0⟩) W (nil_is _ _) (nil_is _ _)
  go_enter Tryd.func3, Tryd.ntmps3
  go_wp2_with (first | (at_builtin; refine wpList_append_own_none rfl _ _ 22 rfl w.heap.size 44 i0 3 Tryd.underlying22 hi0 _ _ _ rfl (World.ownsRow_nil _ _ _ _) rfl ?_) | (go_at_call 8; refine (CS.out _).mono ?_; rintro e w1 ⟨rfl, hb1⟩) | (go_at_call 9; refine (CF.out _).mono ?_; rintro e w2 ⟨rfl, hb2⟩) | (go_at_call 10; refine (CM.out _).mono ?_; rintro e w3 ⟨rfl, hb3⟩))
  go_ret
  exact ⟨rfl, (hb1.trans (hb2.mono hb1.size)).trans (hb3.mono (Nat.le_trans hb1.size hb2.size))⟩

set_option maxHeartbeats 400000 in
theorem walk_zero (a : Addr) (cap : Nat) (w : World) :
    Calls Tryd.prog 3 #[.slice (some a) 0 cap] w fun e w' => e = .returned (.bool true) ∧ Below w.heap.size w w' := by
  obtain ⟨i0, hi0, hz0, hz1, hz2⟩ := info_parts info44
  have CS : Hid (∀ W, Calls Tryd.prog 8 #[.slice none 0 0] W fun e w' => e = .returned (.tuple #[.slice none 0 0, .int .i64 5]) ∧ Below W.heap.size W w') := fun W => shred_err _ _ _ 5 W (by decide) (check_zero _ _ _)
  have CF : Hid (∀ W, Calls Tryd.prog 9 #[.slice (some a) 0 cap] W fun e w' => e = .returned (.tuple #[.slice none 0 0, .int .i64 5]) ∧ Below W.heap.size W w') := fun W => shredded_err _ _ _ 5 W (by decide) (fault_zero _ _ _)
  have CM : Hid (∀ W, Calls Tryd.prog 10 #[.slice none 0 0, .slice none 0 0] W fun e w' => e = .returned (.bool true) ∧ Below W.heap.size W w') := fun W => same_is _ _ 0 (fun _ => ⟨0, ByteArray.empty, ByteArray.empty, 0, 0, 0⟩) W (nil_is _ _) (nil_is _ _)
  go_enter Tryd.func3, Tryd.ntmps3
  go_wp2_with (first | (at_builtin; refine wpList_append_own _ rfl _ _ 22 rfl w.heap.size 44 i0 _ 3 40 Tryd.underlying22 hi0 hz0 hz1 hz2 rfl (by decide) _ _ _ rfl (World.ownsRow_nil _ _ _ _) a 0 cap [] rfl rfl (fun j u hj => by simp at hj) (fun u hu => by cases hu) (by decide) (by decide) (Nat.le_refl _) ?_; intro v' w1 hown hgrow hnil))
  have hv : v' = .slice none 0 0 := hnil.2 ⟨rfl, trivial⟩
  subst hv
  have HG : Hid (Below w.heap.size w w1) := (Below.refl _ _).grown hgrow (Nat.le_refl _) (fun k hk => by cases hk)
  clear hown hgrow hnil
  go_wp2_with (first | (go_at_call 8; refine (CS.out _).mono ?_; rintro e w2 ⟨rfl, hb2⟩) | (go_at_call 9; refine (CF.out _).mono ?_; rintro e w3 ⟨rfl, hb3⟩) | (go_at_call 10; refine (CM.out _).mono ?_; rintro e w4 ⟨rfl, hb4⟩))
  go_ret
  exact ⟨rfl, ((HG.out.trans (hb2.mono HG.out.size)).trans (hb3.mono (Nat.le_trans HG.out.size hb2.size))).trans (hb4.mono (Nat.le_trans (Nat.le_trans HG.out.size hb2.size) hb3.size))⟩

set_option maxHeartbeats 800000 in
theorem walk_some (b off n cap : Nat) (E : Nat → Ev) (w : World) (h0 : 0 < n) (hcap : n ≤ cap) (hm : cap ≤ maxLen) (hreach : n * 40 ≤ 140737488351232) (henv : Env w) (hb0 : b < w.heap.size) (hE : EvsAt w b off n E)
    (hsz : ∀ i, i < n → (E i).name.size ≤ maxLen ∧ (E i).value.size ≤ maxLen) :
    Calls Tryd.prog 3 #[.slice (some ⟨b, off, none⟩) n cap] w fun e w' => e = .returned (.bool true) ∧ Below w.heap.size w w' := by
  obtain ⟨i0, hi0, hz0, hz1, hz2⟩ := info_parts info44
  have HE : Hid (EvsAt w b off n E) := hE
  have CC : Hid (∀ W g c, Below w.heap.size w W → n ≤ c → c ≤ maxLen → g < W.heap.size → EvsAt W g 0 n E → Calls Tryd.prog 8 #[.slice (some ⟨g, 0, none⟩) n c] W fun e w' => ∃ v, e = .returned (.tuple #[v, .int .i64 (checkN E n)]) ∧ NdsIs w' v (shL E n) (doneN (shAt E n)) ∧ Below W.heap.size W w') :=
    fun W g c hb h1 h2 h3 h4 => shred_any g 0 n c E W h1 h2 (henv.below hb) h3 h4 hsz
  have CF : Hid (∀ W, Below w.heap.size w W → Calls Tryd.prog 9 #[.slice (some ⟨b, off, none⟩) n cap] W fun e w' => ∃ v, e = .returned (.tuple #[v, .int .i64 (checkN E n)]) ∧ NdsIs w' v (shL E n) (doneN (shAt E n)) ∧ Below W.heap.size W w') :=
    fun W hb => shredded_any b off n cap E W hcap hm (henv.below hb) (Nat.lt_of_lt_of_le hb0 hb.size) (hE.below hb hb0) hsz
  clear hE hsz henv
  generalize checkN E n = R at *
  generalize shL E n = L at *
  generalize doneN (shAt E n) = D at *
  go_enter Tryd.func3, Tryd.ntmps3
  go_wp2_with (first | (at_builtin; refine wpList_append_own _ rfl _ _ 22 rfl w.heap.size 44 i0 _ 3 40 Tryd.underlying22 hi0 hz0 hz1 hz2 rfl (by decide) _ _ _ rfl (World.ownsRow_nil _ _ _ _) ⟨b, off, none⟩ n cap (cellsOf E n) rfl (cells_len E n) (cells_in HE.out) (cells_one E n) (by omega) (by omega) (Nat.le_refl _) ?_; intro v' w1 hown hgrow hnil))
  have HG : Hid (Below w.heap.size w w1) := (Below.refl _ _).grown hgrow (Nat.le_refl _) (fun k hk => by cases hk)
  rw [Nat.zero_add, List.nil_append] at hown
  obtain ⟨g, c, rfl, hg1, hg2, hg3⟩ : ∃ g c, v' = .slice (some ⟨g, 0, none⟩) n c ∧ g < w1.heap.size ∧ n ≤ c ∧ c ≤ maxLen := by
    obtain ⟨_, ⟨rfl, h⟩ | ⟨g, c, cur, rfl, q1, q2, q3, q4, _⟩⟩ := hown
    · omega
    · exact ⟨g, c, rfl, (Array.getElem?_eq_some_iff.1 q2).1, q3, q4⟩
  have HX : Hid (EvsAt w1 g 0 n E) := evs_of_own hown
  clear hown hgrow hnil
  go_wp2_with (first | (go_at_call 8; refine (CC.out w1 g c HG.out hg2 hg3 hg1 HX.out).mono ?_; rintro e w2 ⟨v2, rfl, hv2, hb2⟩; have HV2 : Hid (NdsIs w2 v2 L D) := hv2; have HG2 : Hid (Below w.heap.size w w2) := HG.out.trans (hb2.mono HG.out.size); obtain ⟨va2, vc2, rfl, _⟩ := hv2; clear hb2) |
    (go_at_call 9; refine (CF.out w2 HG2.out).mono ?_; rintro e w3 ⟨v3, rfl, hv3, hb3⟩; have HV3 : Hid (NdsIs w3 v3 L D) := hv3; have HV2' : Hid (NdsIs w3 (.slice va2 L vc2) L D) := HV2.out.below hb3; have HG3 : Hid (Below w.heap.size w w3) := HG2.out.trans (hb3.mono HG2.out.size); obtain ⟨va3, vc3, rfl, _⟩ := hv3; clear hb3) |
    (go_at_call 10; refine (same_is _ _ L D _ HV2'.out HV3.out).mono ?_; rintro e w4 ⟨rfl, hb4⟩))
  go_ret
  exact ⟨ret_bool (by simp), HG3.out.trans (hb4.mono HG3.out.size)⟩

theorem env_of {W : World} (hL : laidMetH Tryd.prog Rows.storeShredsRow.laid W) (hsh : W.ShapedOpen Tryd.prog) : Env W := by
  rw [MakeChecks.laidMetH_plain _ _ _ (by kernel_rfl)] at hL
  obtain ⟨m, hm⟩ := Tryd.laysM144.s1_3 W hsh
  exact ⟨tabs_of hL (.tail _ (.head _)) (.head _), block_lt (a := ⟨2, 0, none⟩) hm, m, hm⟩

theorem laid_met (os : Os) (args : Array Value) : laidMet Tryd.prog Rows.storeShredsRow.laid ((laidWorld os).forCall (fun _ _ => 0) ⟨#[], args, []⟩).memory :=
  (LaidIn.of_run (l := Rows.storeShredsRow.laid) [1, 0] 8 (by kernel_rfl) (by kernel_rfl) (by kernel_rfl) (by kernel_rfl)).met
theorem witness_row (os : Os) {H : Type} (enc : TypeId × Value → H) :
    (OpenSpec.ofChange Rows.storeShredsSpec).preRow enc Tryd.prog Tryd.f3 Rows.storeShredsRow.domain false Rows.storeShredsRow.laid ((laidWorld os).forCall (fun _ _ => 0) ⟨#[], #[.slice none 0 0], []⟩).memory #[.slice none 0 0] := by
  have hw : (DataW.whole enc Tryd.prog ((laidWorld os).forCall (fun _ _ => 0) ⟨#[], #[.slice none 0 0], []⟩).memory Tryd.f3.params.toList (OpenSpec.ofChange Rows.storeShredsSpec).vars false #[Value.slice none 0 0].toList 8).map (fun x => (x.1, x.2.1)) =
      some ([.nil], []) := by kernel_rfl
  obtain ⟨⟨x1, x2, x3⟩, hx, hx1⟩ := Option.map_eq_some_iff.1 hw
  simp only [Prod.mk.injEq] at hx1
  obtain ⟨rfl, rfl⟩ := hx1
  exact OpenSpec.preRow_of_cond 8 hx (by kernel_rfl) (fun k hk => by cases hk) (by kernel_rfl) (laid_met os _)

/-- WHAT THE WALKS GIVE, FOR EVERY ARGUMENT AND EVERY WORLD THAT HOLDS THE TABLES. -/
theorem contract (H : Type) (enc : TypeId × Value → H) (W : World) (base : Nat) (args : Array Value) (ds gs : List (DataW H)) (before : List MemPlace)
    (hval : ∀ (j : Nat) t v, Tryd.f3.params[j]? = some t → args[j]? = some v → Value.okWide Tryd.prog W .any base t v)
    (hW : DataW.Whole enc Tryd.prog Tryd.f3.params.toList Rows.storeShredsSpec.vars false W args.toList ds gs before)
    (hsz0 : (DataW.weightsEach Tryd.prog (Tryd.f3.params.toList ++ (OpenSpec.ofChange Rows.storeShredsSpec).bare.plain.varTypes Tryd.prog) (ds ++ gs)).all (· ≤ reachBytes) = true)
    (hL : laidMetH Tryd.prog Rows.storeShredsRow.laid W) (hsh : W.ShapedOpen Tryd.prog) :
    Calls Tryd.prog 3 args W fun e W' => ∃ v, e = .returned v ∧ Rows.storeShredsSpec.post enc Tryd.prog Tryd.f3 false true false false W args v W' := by
  have henv := env_of hL hsh
  have hW' := hW
  obtain ⟨p, q, hA0, hV, rfl, hfz, hnd⟩ := hW
  have hA : DataW.TrodAll enc Tryd.prog W 0 (fun _ => true) true Tryd.f3.params.toList args.toList ds p := hA0
  rw [Tryd.params3] at hA hval hsz0
  obtain ⟨v0, d0, rfl, rfl, h0⟩ := trodAll_one hA
  obtain ⟨rfl, rfl⟩ := trodVars_none hV
  have h0k := h0
  have hlt : ∀ x ∈ p, x.block < W.heap.size := fun x hx => by
    have := hW'.lt x (by simpa using hx)
    simpa using this
  obtain ⟨a0, len, cap, rfl⟩ := okWide_slice Tryd.underlying22 (hval 0 22 v0 rfl rfl)
  obtain ⟨fuel, hf0⟩ := h0
  have hf : DataW.trod enc Tryd.prog W 0 (fun _ => true) true fuel 22 [.slice a0 len cap] = some (d0, p) := by simpa [Value.cells] using hf0
  clear hA0
  have key : Calls Tryd.prog 3 #[.slice a0 len cap] W fun e w' => e = .returned (.bool true) ∧ Below W.heap.size W w' := by
    rcases open_events hf with h1 | ⟨a, len', cap', E, els, sp, h1, h2, h3, h4, h5, h6, h7, h8⟩
    · simp only [List.cons.injEq, Value.slice.injEq, and_true] at h1
      obtain ⟨rfl, rfl, rfl⟩ := h1
      exact walk_nil W
    · simp only [List.cons.injEq, Value.slice.injEq, and_true] at h1
      obtain ⟨rfl, rfl, rfl⟩ := h1
      rcases Nat.eq_zero_or_pos len with hz | hz
      · subst hz
        exact walk_zero a cap W
      · obtain ⟨b, off, rfl, hE, hb⟩ := h7 hz
        have hr := sized_slice hsz0 (j := 0) (t := 22) (e := 44) (elems := els) (spare := sp) rfl (by simpa using h4) Tryd.underlying22
        rw [bytes44, h5, h6] at hr
        unfold reachBytes at hr
        exact walk_some b off len cap E W hz h2 h3 (by omega) henv hb hE h8
  refine key.mono ?_
  rintro e W' ⟨rfl, bel⟩
  refine ⟨_, rfl, _, _, _, [], p, [], hW', ?_, ?_, ?_, bel.frame _, fun h => by cases h⟩
  · exact trodAll_mk1 (shut_bool Tryd.underlying4 _)
  · exact trodAll_mk1 (Below.trod laidOut (by kernel_rfl) (of_decide_eq_true (by kernel_rfl)) h0k bel hlt)
  · rfl

set_option maxRecDepth 100000 in
theorem lifted (os : Os) (started : os.Started) (H : Type) (enc : TypeId × Value → H) (F : Stop.Interp) :
    ReturnsInHanded {} Tryd.checked os 3 .any ((OpenSpec.ofChange Rows.storeShredsSpec).preRow enc Tryd.prog Tryd.f3 Rows.storeShredsRow.domain false Rows.storeShredsRow.laid) (((OpenSpec.ofChange Rows.storeShredsSpec).at F).post enc Tryd.prog Tryd.f3 false true false false) := by
  refine returnsInHanded_of_row (C := Tryd.checked) (s := OpenSpec.ofChange Rows.storeShredsSpec) own started (by kernel_rfl) Tryd.func3
    (witness_row_atRef (enc := enc) (C := Tryd.checked) false (laidWorld os) #[.slice none 0 0] rfl (by kernel_rfl) (by kernel_rfl) (by kernel_rfl) (witness_row os enc)) ?_
  intro W base args ds gs before hval hW _ _ hsz hL hsh _
  exact contract H enc W base args ds gs before hval hW hsz hL hsh

theorem said : Rows.StoreShredsSaid :=
  OpenClaim.holds_of_cond 3 Tryd.f3 rfl rfl rfl rfl rfl rfl rfl ⟨rfl, rfl, rfl, rfl, rfl⟩ rfl rfl rfl rfl rfl (by kernel_rfl) Tryd.func3 (by kernel_rfl)
    (of_decide_eq_true (by kernel_rfl)) (by unfold Func.isWrapper; first | (rw [if_pos (by decide +kernel)]; kernel_rfl) | (rw [if_neg (by decide +kernel)]; exact ⟨rfl, rfl⟩))
    (fun os started H enc _ F => by rw [OpenClaim.pre_eq_preRow]; exact lifted os started H enc F)

/-- No parameter wants a stand-in; the program's own looks are off: what the card asks. -/
theorem plain (f : FuncId) (fn : Func) (hf : Tryd.pinned.checked.prog.funcNamed "pleacher/pleacherlaw.StoreShreds" = some f) (hfn : Tryd.pinned.checked.prog.funcs[f]? = some fn) :
    false = Tryd.pinned.checked.prog.looks [] ∧ ∀ (j : Nat) t, fn.params[j]? = some t → Tryd.pinned.checked.prog.wantsStandIn t = false := by
  obtain rfl : f = 3 := Option.some.inj ((show Tryd.prog.funcNamed "pleacher/pleacherlaw.StoreShreds" = some 3 by kernel_rfl).symm.trans hf) |>.symm
  obtain rfl : fn = Tryd.f3 := (Option.some.inj (Tryd.func3.symm.trans hfn)).symm
  refine ⟨by kernel_rfl, fun j t ht => ?_⟩
  rw [Tryd.params3] at ht
  obtain rfl : t = 22 := by simpa using Array.mem_of_getElem? ht
  exact (show Tryd.prog.wantsStandIn 22 = false by kernel_rfl)
end Go.Proofs.YtpccfjoklinaiaaDoor.storeShreds
namespace Go.Proofs.YtpccfjoklinaiaaDoor
/-- StoreShreds holds: the card. -/
theorem storeShreds_card : Rows.StoreShredsCardSaid :=
  Claim7.holds_tied_plain_at .later [] _ _ _ _ storeShreds.said (fun _ h => by cases h) (by kernel_rfl) (fun _ h => by cases h) storeShreds_row_tie rfl ⟨rfl, rfl⟩ (by kernel_rfl) rfl storeShreds.plain (by kernel_rfl)
#print axioms storeShreds_card
end Go.Proofs.YtpccfjoklinaiaaDoor
