/-
  CONTRACT: the document's answer to the events of a node (pleacherref.eventsAt): by its children.
-/
import Derived.Test.YtabnaeppcnfhhaaDoorEtRow
import Derived.Deep.RegionLaw
set_option linter.unusedVariables false
namespace Go.Proofs.YtabnaeppcnfhhaaDoor
set_option maxRecDepth 100000
open Go.RowKit

/-- append to a row of one's own, as one step of a region that draws -/
theorem step_append_row {P : Program} {ops : Array Oper} {o : Oper} {a : Act} {w : World} {K : Act → World → Prop} {Q : Exit → Act → World → Prop} {X : Prop} (hg : o.guard = none) (s x : Operand) (t : TypeId)
    (ho : o.op = .call { callee := .builtin .append, args := #[s, x], argTypes := #[t, t] })
    (base : Nat) (e : TypeId) (i : TypeInfo) (z : Value) (size bytes : Nat) (ht : P.underlying t = some (.slice e)) (hi : P.info? e = some i) (hz : i.zero = some z)
    (hsize : i.size = size) (hby : i.bytes = bytes) (hzs : z.cells.size = size) (hsz : 0 < size)
    (v : Value) (n : Nat) (xs : List Value) (hs : a.eval s = v) (hown : w.ownsRow base e size v n xs)
    (ad : Addr) (m c : Nat) (news : List Value) (hx : a.eval x = .slice (some ad) m c) (hl : news.length = m * size) (hnews : ∀ j u, news[j]? = some u → w.cell? (ad.add j) = some u) (h1 : ∀ u ∈ news, u.oneCell' = true)
    (h63 : n + m ≤ maxLen) (hbytes : (n + m) * bytes ≤ 140737488355328) (hbase : base ≤ w.heap.size)
    (h : ∀ v' w', w'.ownsRow base e size v' (n + m) (xs ++ news) → w.grownBy w' v.ownBlock → (v' = .slice none 0 0 ↔ v = .slice none 0 0 ∧ m = 0) → K (a.put o.dst v') w') :
    if Region.wanted o (yielded ops a.tmps) = true then Oper.wp P o a w K Q else X := by
  have hw : Region.wanted o (yielded ops a.tmps) = true := by simp [Region.wanted, hg]
  rw [if_pos hw]
  exact wp_append_own w s x t ho base e i z size bytes ht hi hz hsize hby hzs hsz v n xs hs hown ad m c news hx hl hnews h1 h63 hbytes hbase h

set_option maxHeartbeats 6400000 in
/-- .. where it has an event of its own, as long as those of its children are known -/
theorem eventsAt_step (bn off N cap n : Nat) (E : Nat → Nd) (w : World) (hN : N ≤ 100000) (hcap : N ≤ cap) (hcm : cap ≤ maxLen) (hn : n < N) (hb0 : bn < w.heap.size) (hE : NdsAt w bn off N E) (hTr : Tree E N)
    (ih : ∀ W i, Below w.heap.size w W → n < i → i ≤ n + zN E n → Calls Tryd.prog 10 #[.slice (some ⟨bn, off, none⟩) N cap, .int .i64 i] W fun e w' => ∃ v, e = .returned v ∧ EvRow w' W.heap.size v (evA E i) ∧ Below W.heap.size W w') :
    Calls Tryd.prog 10 #[.slice (some ⟨bn, off, none⟩) N cap, .int .i64 n] w fun e w' => ∃ v, e = .returned v ∧ EvRow w' w.heap.size v (evA E n) ∧ Below w.heap.size w w' := by
  have HIH : Hid (∀ W i, Below w.heap.size w W → n < i → i ≤ n + zN E n → Calls Tryd.prog 10 #[.slice (some ⟨bn, off, none⟩) N cap, .int .i64 i] W fun e w' => ∃ v, e = .returned v ∧ EvRow w' W.heap.size v (evA E i) ∧ Below W.heap.size W w') := ih
  have HTR : Hid (Tree E N) := hTr
  have HNA : Hid (∀ W i, Below w.heap.size w W → i < N → W.cell? ⟨bn, off + i * 6, none⟩ = some (.int .i64 (E i).kind) ∧ W.cell? ⟨bn, off + i * 6 + 1, none⟩ = some (.string (E i).name) ∧ W.cell? ⟨bn, off + i * 6 + 2, none⟩ = some (.string (E i).value) ∧ W.cell? ⟨bn, off + i * 6 + 3, none⟩ = some (.int .i64 (zN E i)) ∧ W.cell? ⟨bn, off + i * 6 + 4, none⟩ = some (.int .i64 (E i).level) ∧ W.cell? ⟨bn, off + i * 6 + 5, none⟩ = some (.int .i64 (E i).parent)) := fun W i hW hi => by
    have := hE.below hW hb0 i hi
    rw [(hTr.sz i hi).1] at this
    exact this
  have hnz := (hTr.sz n hn).2
  have HEV : Hid (evA E n = startOf (E n) ++ frs E (n + 1) (n + 1 + zN E n) ++ endOf (E n)) := evA_is hTr hn
  have HKZ : Hid (Kids E n (n + 1) (n + 1) []) := Kids.zero hTr hn
  obtain ⟨i0, hi0, hz0, hz1, hz2⟩ := info_parts infoEv
  unfold maxLen at hcm
  have hn0 := HNA.out w n (Below.refl _ _) hn
  clear ih hE hTr
  obtain ⟨n1, n2, n3, n4, n5, n6⟩ := hn0
  have hni : (n : Int) < (N : Int) := by omega
  obtain ⟨kk, hkk⟩ : ∃ kk, kk = (E n).kind := ⟨_, rfl⟩
  have HKK : Hid (kk = (E n).kind) := hkk
  rw [← hkk] at n1
  clear hkk
  by_cases k6 : kk = 6
  have HVs : Hid (EvRow w w.heap.size (.slice none 0 0) (startOf (E n))) := by
    have h : startOf (E n) = [] := if_pos (by rw [← HKK.out]; exact k6)
    rw [h]; exact EvRow.nil _ _
  have HBs : Hid (Below w.heap.size w w) := Below.refl _ _
  subst k6
  focus
    go_enter Tryd.func10, Tryd.ntmps10
    go_wp2
  clear n1 n2 n3 n4 n5 n6
  rotate_left
  have k6n : (kk != 6) = true := by simpa using k6
  have k6e : (kk == 6) = false := by simpa using k6
  have HST : Hid (startOf (E n) = [⟨kk, (E n).name, (E n).value⟩]) := by
    have h := HKK.out
    have h2 : startOf (E n) = [⟨kk, (E n).name, (E n).value⟩] := by rw [h]; exact if_neg (by rw [← h]; exact k6)
    exact h2
  generalize (E n).name = nm at *
  generalize (E n).value = vl at *
  clear k6
  focus
    go_enter Tryd.func10, Tryd.ntmps10
    go_upto_region 3 with fail
    go_region_law (refine step_append_row rfl (.tmp 13) (.tmp 30) 23 rfl w.heap.size 35 i0 _ 3 40 Tryd.underlying23 hi0 hz0 hz1 hz2 rfl (by decide) (.slice none 0 0) 0 [] (by simp [Act.eval]) (World.ownsRow_nil _ _ _ _) ⟨w.heap.size, 0, none⟩ 1 1 (evC ⟨kk, nm, vl⟩) (by simp [Act.eval]) rfl (by intro j u hj; have h := elemE_in (w := w) ⟨kk, nm, vl⟩ j u hj; simpa using h) (elemE_one _) (by unfold maxLen; omega) (by omega) (by simp <;> omega) ?_; intro v6 w6 hown6 hgrow6 hiff6; have HV6 : Hid (EvRow w6 w.heap.size v6 [⟨kk, nm, vl⟩]) := hown6; have HB6 : Hid (Below w.heap.size w w6) := (by exact Below.grown (by repeat (first | exact Below.refl _ _ | apply Below.drew | refine Below.alloc ?_ (by simp) _)) hgrow6 (by simp <;> omega) (fun q hq => by cases hq)); clear hown6 hgrow6 hiff6)
    all_goals
      revert HB6 HV6
      revert w6 v6
      refine ?merged
    intro v6 w6 HV6 HB6
    obtain ⟨va6, vc6, rfl⟩ := own_shape HV6.out
    go_wp2
  have HVs : Hid (EvRow w6 w.heap.size (.slice va6 1 vc6) (startOf (E n))) := by rw [HST.out]; exact HV6.out
  have HBs : Hid (Below w.heap.size w w6) := HB6.out
  clear HV6 HB6 HST n1 n2 n3 n4 n5 n6 k6n k6e
  rotate_left
  all_goals
    go_loopw [5, 6] (fun v q wr => ∃ (i j : Nat) (P : List Evt), n < i ∧ i ≤ n + 1 + zN E n ∧ q = .int .i64 i ∧ Kids E n i j P ∧ EvRow wr w.heap.size v (startOf (E n) ++ P) ∧ Below w.heap.size w wr) (fun _ q _ => n + 1 + zN E n - (intOf q).toNat)
    case atStart => exact ⟨n + 1, n + 1, [], by omega, by omega, by go_num, HKZ.out, by rw [List.append_nil]; exact HVs.out, HBs.out⟩
    case round =>
      clear HVs HBs HKZ
      obtain ⟨i, j, P, hnI, hiB, rfl, hkids, hv, hbr⟩ := hrel
      have HK : Hid (Kids E n i j P) := hkids
      have hPl := hkids.len HTR.out hn
      have hs1 : (startOf (E n)).length ≤ 1 := by unfold startOf; split <;> simp
      have hLl : (startOf (E n) ++ P).length ≤ 1 + 2 * zN E n := by rw [List.length_append]; omega
      have hsv := own_shape hv
      obtain ⟨va, vc, rfl⟩ := hsv
      have HV : Hid (EvRow wr w.heap.size (.slice va (startOf (E n) ++ P).length vc) (startOf (E n) ++ P)) := hv
      have HB : Hid (Below w.heap.size w wr) := hbr
      have hzr : w.heap.size ≤ wr.heap.size := hbr.size
      have hbi : bn < wr.heap.size := by omega
      obtain ⟨n1, n2, n3, n4, n5, n6⟩ := HNA.out wr n hbr hn
      clear hv hbr hkids
      by_cases hlt : i < n + 1 + zN E n
      · obtain ⟨e1, e2, e3, e4, e5, e6⟩ := HNA.out wr i HB.out (by omega)
        have hii : (i : Int) < (N : Int) := by omega
        have hle : (i : Int) ≤ (n : Int) + (zN E n : Int) := by omega
        by_cases hij : i = j
        · subst hij
          have hp : (((E i).parent : Int) == (n : Int)) = true := by rw [HK.out.yes hlt]; simp
          have CI : Hid (Calls Tryd.prog 10 #[.slice (some ⟨bn, off, none⟩) N cap, .int .i64 i] wr fun e w' => ∃ v, e = .returned v ∧ EvRow w' wr.heap.size v (evA E i) ∧ Below wr.heap.size wr w') := HIH.out wr i HB.out hnI (by omega)
          have HK2 : Hid (Kids E n (i + 1) (i + 1 + zN E i) (P ++ evA E i)) := HK.out.child HTR.out hn hnI hlt
          have hPl2 := HK2.out.len HTR.out hn
          have hpos : 0 < (evA E i).length := by
            rw [evA_is HTR.out (by omega : i < N), show startOf (E i) = [⟨(E i).kind, (E i).name, (E i).value⟩] from if_neg (HTR.out.kin n i hn hnI (by omega))]
            simp
          have hLl2 : (startOf (E n) ++ P).length + (evA E i).length ≤ 1 + 2 * zN E n := by
            rw [List.length_append] at hPl2 ⊢
            omega
          generalize hL : startOf (E n) ++ P = L at *
          have HL : Hid (startOf (E n) ++ (P ++ evA E i) = L ++ evA E i) := by
            have h : startOf (E n) ++ (P ++ evA E i) = L ++ evA E i := by rw [← hL, List.append_assoc]
            exact h
          clear hL
          generalize evA E i = M at *
          generalize (E i).parent = pr at *
          go_wp2_with (first
            | (go_at_call 10; refine CI.out.mono ?_; rintro e w1 ⟨v1, rfl, hr1, hb1⟩; have HV1 : Hid (EvRow w1 w.heap.size (.slice va L.length vc) L) := HV.out.below hb1; have HB1 : Hid (Below w.heap.size w w1) := HB.out.trans (hb1.mono hzr); have hzr1 : w.heap.size ≤ w1.heap.size := HB1.out.size; obtain ⟨g1, c1, rfl, hg1, hg2, hcs1⟩ := hr1.cells hpos; have HCS : Hid (∀ j u, (evtCells M)[j]? = some u → w1.cell? ((⟨g1, 0, none⟩ : Addr).add j) = some u) := hcs1; clear hb1 hr1 hcs1)
            | (at_builtin; refine wpList_append_own _ rfl (.tmp 52) (.tmp 55) 23 rfl w.heap.size 35 i0 _ 3 40 Tryd.underlying23 hi0 hz0 hz1 hz2 rfl (by decide) _ _ _ rfl HV1.out ⟨g1, 0, none⟩ M.length c1 (evtCells M) rfl (evtCells_len M) HCS.out (evtCells_one M) (by unfold maxLen; omega) (by omega) hzr1 ?_; intro v6 w6 hown6 hgrow6 hiff6; obtain ⟨va6, vc6, rfl⟩ := own_shape hown6; have HV6 : Hid (EvRow w6 w.heap.size (.slice va6 (L.length + M.length) vc6) (L ++ M)) := (by show World.ownsRow _ _ _ _ _ _ _; rw [evtCells_app, List.length_append]; exact hown6); have HB6 : Hid (Below w.heap.size w w6) := HB1.out.grown hgrow6 hzr1 (fun z hz => (HV1.out.lt z hz).1); clear hown6 hgrow6 hiff6))
          go_roundw
          case rel => exact ⟨i + 1, i + 1 + zN E i, P ++ M, by omega, by omega, by go_num, HK2.out, by rw [HL.out]; exact HV6.out, HB6.out⟩
          case measure => simp [intOf]; omega
        · have hlj : i < j := by have := HK.out.le; omega
          have hp : (((E i).parent : Int) == (n : Int)) = false := by
            have := HK.out.no i (Nat.le_refl _) hlj
            simpa using this
          have HK2 : Hid (Kids E n (i + 1) j P) := HK.out.skip hlj
          generalize (E i).parent = pr at *
          go_wp2
          go_roundw
          case rel => exact ⟨i + 1, j, P, by omega, by omega, by go_num, HK2.out, HV.out, HB.out⟩
          case measure => simp [intOf]; omega
      · have e : i = n + 1 + zN E n := by omega
        subst e
        have hle : ¬ ((n + 1 + zN E n : Nat) : Int) ≤ (n : Int) + (zN E n : Int) := by omega
        have HP : Hid (startOf (E n) ++ P ++ endOf (E n) = evA E n) := by
          have h : startOf (E n) ++ P ++ endOf (E n) = evA E n := by rw [HEV.out, HK.out.done]
          exact h
        by_cases k1 : (E n).kind = 1
        · have k1' : ((E n).kind == 1) = true := by simpa using k1
          have HEN : Hid (endOf (E n) = [endE]) := if_pos k1
          generalize startOf (E n) ++ P = L at *
          clear HIH
          go_wp2_with (first
            | (at_builtin; refine wpList_append_own _ rfl (.tmp 63) (.tmp 65) 23 rfl w.heap.size 35 i0 _ 3 40 Tryd.underlying23 hi0 hz0 hz1 hz2 rfl (by decide) _ _ _ rfl (HV.out.alloc _) ⟨wr.heap.size, 0, none⟩ 1 1 (evC endE) rfl rfl (elemE_in endE) (elemE_one _) (by unfold maxLen; omega) (by omega) (by simp <;> omega) ?_; intro v6 w6 hown6 hgrow6 hiff6; obtain ⟨va6, vc6, rfl⟩ := own_shape hown6; have HV6 : Hid (EvRow w6 w.heap.size (.slice va6 (L.length + 1) vc6) (L ++ [endE])) := EvRow.snoc hown6; have HB6 : Hid (Below w.heap.size w w6) := (HB.out.alloc hzr _).grown hgrow6 (by simp <;> omega) (fun z hz => (HV.out.lt z hz).1); clear hown6 hgrow6 hiff6))
          go_ret
          exact ⟨_, rfl, by rw [← HP.out, HEN.out]; exact HV6.out, HB6.out⟩
        · have k1' : ((E n).kind == 1) = false := by simpa using k1
          have HEN : Hid (endOf (E n) = []) := if_neg k1
          generalize startOf (E n) ++ P = L at *
          clear HIH
          go_wp2
          go_ret
          exact ⟨_, rfl, by rw [← HP.out, HEN.out, List.append_nil]; exact HV.out, HB.out⟩

theorem eventsAt_all (bn off N cap : Nat) (E : Nat → Nd) (hN : N ≤ 100000) (hcap : N ≤ cap) (hcm : cap ≤ maxLen) (hTr : Tree E N) : ∀ k n w, zN E n ≤ k → n < N → bn < w.heap.size → NdsAt w bn off N E →
    Calls Tryd.prog 10 #[.slice (some ⟨bn, off, none⟩) N cap, .int .i64 n] w fun e w' => ∃ v, e = .returned v ∧ EvRow w' w.heap.size v (evA E n) ∧ Below w.heap.size w w'
  | k, n, w, hk, hn, hb0, hE => by
    refine eventsAt_step bn off N cap n E w hN hcap hcm hn hb0 hE hTr fun W i hW hi1 hi2 => ?_
    have hns := hTr.sz n hn
    have hnest := hTr.nest n i hn hi1 hi2
    match k, hk with
    | 0, hk => omega
    | k + 1, hk => exact eventsAt_all bn off N cap E hN hcap hcm hTr k i W (by omega) (by omega) (Nat.lt_of_lt_of_le hb0 hW.size) (hE.below hW hb0)
end Go.Proofs.YtabnaeppcnfhhaaDoor
