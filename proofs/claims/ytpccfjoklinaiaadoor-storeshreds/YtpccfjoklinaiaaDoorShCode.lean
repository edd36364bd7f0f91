/-
  CONTRACT of store.Shred.
-/
import Derived.Test.YtpccfjoklinaiaaDoorShClosed
import Derived.Test.YtpccfjoklinaiaaDoorNdCopied
import Derived.Deep.RegionLaw
import Derived.Laws.OwnMore
set_option linter.unusedVariables false
namespace Go.Proofs.YtpccfjoklinaiaaDoor
open Go.RowKit

set_option maxHeartbeats 3200000 in
set_option maxRecDepth 100000 in
theorem shred_some (b off n cap : Nat) (E : Nat → Ev) (w : World) (hn : n ≤ 400) (hcap : n ≤ cap) (hb0 : b < w.heap.size) (hE : EvsAt w b off n E) (hok : okTo E n) (hd0 : (stAt E n).d = 0)
    (hC : Calls Tryd.prog 21 #[.slice (some ⟨b, off, none⟩) n cap] w fun e w' => e = .returned (.int .i64 0) ∧ Below w.heap.size w w') :
    Calls Tryd.prog 8 #[.slice (some ⟨b, off, none⟩) n cap] w fun e w' => ∃ v, e = .returned (.tuple #[v, .int .i64 0]) ∧ NdsIs w' v (shAt E n).c (doneN (shAt E n)) ∧ Below w.heap.size w w' := by
  have CC : Hid (Calls Tryd.prog 21 #[.slice (some ⟨b, off, none⟩) n cap] w fun e w' => e = .returned (.int .i64 0) ∧ Below w.heap.size w w') := hC
  have HE : Hid (∀ W, Below w.heap.size w W → EvsAt W b off n E) := fun W hW => hE.below hW hb0
  have HOK : Hid (okTo E n) := hok
  have HD0 : Hid ((stAt E n).d = 0) := hd0
  obtain ⟨i0, hi0, hz0, hz1, hz2⟩ := info_parts info42
  clear hE hC hok hd0
  go_enter Tryd.func8, Tryd.ntmps8
  go_wp2_with (first | (go_at_call 21; refine CC.out.mono ?_; rintro e w1 ⟨rfl, hb1⟩))
  have HB1 : Hid (Below w.heap.size w w1) := hb1
  have hz1w : w.heap.size ≤ w1.heap.size := hb1.size
  clear hb1 CC
  have HR0 : Hid (RowIs (w1.alloc (.cells #[.int .i64 6, .string ByteArray.empty, .string ByteArray.empty, .int .i64 0, .int .i64 0, .int .i64 (-1)] 42)) w1.heap.size (.slice (some ⟨w1.heap.size, 0, none⟩) 1 1) 1 (shAt E 0).N) := RowIs.one ⟨6, ByteArray.empty, ByteArray.empty, 0, 0, -1⟩ _ rfl (Nat.le_refl _)
  go_loopw [5, 6, 18] (fun nd op q wr => ∃ k : Nat, k ≤ n ∧ q = .int .i64 k ∧ op = .int .i64 (topO (shAt E k) : Int) ∧ RowIs wr w1.heap.size nd (shAt E k).c (shAt E k).N ∧ Below w1.heap.size w1 wr) (fun _ _ q _ => n - (intOf q).toNat)
  case atStart => exact ⟨0, Nat.zero_le _, rfl, rfl, HR0.out, (Below.refl _ _).alloc (Nat.le_refl _) _⟩
  case round =>
    obtain ⟨k, hk, rfl, rfl, hrow, hbr⟩ := hrel
    obtain ⟨hinv, hlen, hck⟩ := sh_len (E := E) (k := k) (fun j hj => HOK.out j (by omega))
    obtain ⟨g, cp, rfl, hg1, hg2, hg3, hnds⟩ := hrow.place hinv.pos
    have htop := hinv.top
    have hlv := hinv.lv _ htop
    have HINV : Hid (ShInv (shAt E k)) := hinv
    have HLEN : Hid ((shAt E k).st.length = (stAt E k).d + 1) := hlen
    have HROW : Hid (RowIs wr w1.heap.size (.slice (some ⟨g, 0, none⟩) (shAt E k).c cp) (shAt E k).c (shAt E k).N) := hrow
    have HBR : Hid (Below w1.heap.size w1 wr) := hbr
    have hzr : w1.heap.size ≤ wr.heap.size := hbr.size
    have HBW : Hid (∀ W, Below w1.heap.size w1 W → Below w.heap.size w W) := fun W hW => HB1.out.trans (hW.mono hz1w)
    by_cases hlt : k < n
    · obtain ⟨e1, e2, e3⟩ := HE.out wr (HBW.out wr hbr) k hlt
      have HST : Hid (shAt E (k + 1) = shStep (shAt E k) (E k)) := rfl
      have HERR : Hid (errAt E k = 0) := HOK.out k hlt
      have hbz : b < wr.heap.size := by omega
      by_cases k5 : (E k).kind = 5
      · have hd1 : 1 < (shAt E k).st.length := by
          have := (err_zero HERR.out).2.1
          rw [HLEN.out]
          have : (stAt E k).d ≠ 0 := fun h0 => this ⟨h0, .inl (by omega)⟩
          omega
        obtain ⟨o', ho1, ho2⟩ := sh_pop hinv hd1
        have CL : Hid (∀ ob, Calls Tryd.prog 22 #[.slice (some ⟨g, 0, none⟩) (shAt E k).c cp, .int .i64 (topO (shAt E k) : Int)] (wr.alloc ob) fun e w' => e = .returned (.int .i64 ((shAt E k).N (topO (shAt E k))).parent) ∧ RowIs w' w1.heap.size (.slice (some ⟨g, 0, none⟩) (shAt E k).c cp) (shAt E k).c (upd (shAt E k).N (topO (shAt E k)) (setSize ((shAt E k).N (topO (shAt E k))) (((shAt E k).c : Int) - 1 - (topO (shAt E k) : Int)))) ∧ Below w1.heap.size (wr.alloc ob) w') :=
          fun ob => closed_is g cp _ _ _ _ _ (HROW.out.alloc ob) htop (by omega) hg3
        have HS1 : Hid ((shAt E (k + 1)).c = (shAt E k).c ∧ topO (shAt E (k + 1)) = o' ∧ (shAt E (k + 1)).N = upd (shAt E k).N (topO (shAt E k)) (setSize ((shAt E k).N (topO (shAt E k))) (((shAt E k).c : Int) - 1 - (topO (shAt E k) : Int)))) := by
          have h : (shAt E (k + 1)).c = (shAt E k).c ∧ topO (shAt E (k + 1)) = o' ∧ (shAt E (k + 1)).N = upd (shAt E k).N (topO (shAt E k)) (setSize ((shAt E k).N (topO (shAt E k))) (((shAt E k).c : Int) - 1 - (topO (shAt E k) : Int))) := by
            rw [HST.out]; unfold shStep; rw [if_pos k5]; exact ⟨rfl, ho1, rfl⟩
          exact h
        rw [ho2] at CL
        rw [k5] at e1
        clear hrow hbr hnds hinv hlen ho1 ho2 hd1 k5 hlv
        generalize (shAt E k).c = c at *
        generalize topO (shAt E k) = o at *
        generalize (shAt E k).N = N at *
        go_wp2_with (first | (go_at_call 22; refine (CL.out _).mono ?_; rintro e w2 ⟨rfl, hr2, hb2⟩))
        have HR2 : Hid (RowIs w2 w1.heap.size (.slice (some ⟨g, 0, none⟩) c cp) (shAt E (k + 1)).c (shAt E (k + 1)).N) := by
          have h : RowIs w2 w1.heap.size (.slice (some ⟨g, 0, none⟩) c cp) (shAt E (k + 1)).c (shAt E (k + 1)).N := by rw [HS1.out.1, HS1.out.2.2]; exact hr2
          exact h
        have HG2 : Hid (Below w1.heap.size w1 w2) := (HBR.out.alloc hzr _).trans hb2
        clear hr2 hb2
        go_roundw
        case rel => exact ⟨k + 1, by omega, by go_num, by rw [HS1.out.2.1], HR2.out, HG2.out⟩
        case measure => simp [intOf]; omega
      · have hk5 : ((E k).kind == 5) = false := by simpa using k5
        have HS1 : Hid ((shAt E (k + 1)).c = (shAt E k).c + 1 ∧ topO (shAt E (k + 1)) = (if (E k).kind = 1 then (shAt E k).c else topO (shAt E k)) ∧ (shAt E (k + 1)).N = upd (shAt E k).N (shAt E k).c (newN (shAt E k) (E k))) := by
          have h : (shAt E (k + 1)).c = (shAt E k).c + 1 ∧ topO (shAt E (k + 1)) = (if (E k).kind = 1 then (shAt E k).c else topO (shAt E k)) ∧ (shAt E (k + 1)).N = upd (shAt E k).N (shAt E k).c (newN (shAt E k) (E k)) := by
            rw [HST.out]; unfold shStep; rw [if_neg k5]
            refine ⟨rfl, ?_, rfl⟩
            show (if (E k).kind = 1 then (shAt E k).c :: (shAt E k).st else (shAt E k).st).headD 0 = _
            split <;> rfl
          exact h
        have HNW : Hid (newN (shAt E k) (E k) = ⟨(E k).kind, (E k).name, (E k).value, 0, ((shAt E k).N (topO (shAt E k))).level + 1, (topO (shAt E k) : Int)⟩) := rfl
        obtain ⟨_, _, _, _, l5, _⟩ := hnds (topO (shAt E k)) htop
        simp only [Nat.zero_add] at l5
        generalize newN (shAt E k) (E k) = X at *
        clear hrow hbr hnds hinv hlen k5
        generalize (shAt E k).c = c at *
        generalize topO (shAt E k) = o at *
        generalize hNN : (shAt E k).N = N at *
        generalize (N o).level = lo at *
        have hoI : (o : Int) < (c : Int) := by omega
        have HX : Hid (upd N c X c = ⟨(E k).kind, (E k).name, (E k).value, 0, IntKind.i64.wrap (lo + 1), (o : Int)⟩) := by
          have h : upd N c X c = ⟨(E k).kind, (E k).name, (E k).value, 0, IntKind.i64.wrap (lo + 1), (o : Int)⟩ := by rw [upd_same, HNW.out, IntWalk.i64_in _ (by omega)]
          exact h
        have HRX : Hid (RowIs wr w1.heap.size (.slice (some ⟨g, 0, none⟩) c cp) c (upd N c X)) := HROW.out.congr (fun j hj => (upd_other (by omega)).symm)
        go_upto_region 11 with fail
        go_cut [5] from 19 to 51 (fun v wx => RowIs wx w1.heap.size v (c + 1) (upd N c X) ∧ Below w1.heap.size w1 wx ∧ wx.cell? ⟨wr.heap.size, 0, none⟩ = some (.int .i64 (E k).kind))
        case first =>
          go_region_law (refine step_append_row rfl (.tmp 28) (.tmp 43) 23 rfl w1.heap.size 42 i0 _ 6 64 Tryd.underlying23 hi0 hz0 hz1 hz2 rfl (by decide) (.slice (some ⟨g, 0, none⟩) c cp) c (ndCells (upd N c X) c) (by simp [Act.eval]) (((HRX.out.alloc _).alloc _).heap rfl) ⟨wr.heap.size + 1, 0, none⟩ 1 1 (six ⟨(E k).kind, (E k).name, (E k).value, 0, IntKind.i64.wrap (lo + 1), (o : Int)⟩) (by simp [Act.eval]) rfl (by intro j u hj; have h := six_in (w := wr.alloc (.cells #[.int .i64 (E k).kind, .string (E k).name, .string (E k).value] 44)) 0 ⟨(E k).kind, (E k).name, (E k).value, 0, IntKind.i64.wrap (lo + 1), (o : Int)⟩ j u hj; simpa using h) (six_one _) (by unfold maxLen; omega) (by omega) (by simp; omega) ?_; intro v6 w6 hown6 hgrow6 _; have HR6 : Hid (RowIs w6 w1.heap.size v6 (c + 1) (upd N c X)) := RowIs.pushed hown6 HX.out; have HG6 : Hid (Below w1.heap.size w1 w6) := Below.grown (by repeat (first | exact HBR.out | apply below_alloc2 _ (Nat.le_refl _) | apply Below.drew)) hgrow6 (by simp; omega) (fun q hq => by simp [Value.ownBlock] at hq; omega); have HC6 : Hid (w6.cell? ⟨wr.heap.size, 0, none⟩ = some (.int .i64 (E k).kind)) := hgrow6.cell (by simp) (by simp [Value.ownBlock]; omega); clear hown6 hgrow6)
          all_goals (go_wp2_with fail; go_meet; exact ⟨HR6.out, HG6.out, HC6.out⟩)
        case rest =>
          obtain ⟨hrc, hbc, hcc⟩ := hcut
          obtain ⟨ac, cpc, rfl⟩ := hrc.shape
          have HRC : Hid (RowIs wc w1.heap.size (.slice ac (c + 1) cpc) (shAt E (k + 1)).c (shAt E (k + 1)).N) := by
            have h : RowIs wc w1.heap.size (.slice ac (c + 1) cpc) (shAt E (k + 1)).c (shAt E (k + 1)).N := by rw [HS1.out.1, HS1.out.2.2]; exact hrc
            exact h
          have HBC : Hid (Below w1.heap.size w1 wc) := hbc
          clear hrc hbc
          cases k1 : ((E k).kind == 1)
          · have HT1 : Hid (topO (shAt E (k + 1)) = o) := by
              have h : topO (shAt E (k + 1)) = o := by rw [HS1.out.2.1, if_neg (by simpa using k1)]
              exact h
            go_wp2
            go_roundw
            case rel => exact ⟨k + 1, by omega, by go_num, by rw [HT1.out], HRC.out, HBC.out⟩
            case measure => simp [intOf]; omega
          · have HT1 : Hid (topO (shAt E (k + 1)) = c) := by
              have h : topO (shAt E (k + 1)) = c := by rw [HS1.out.2.1, if_pos (by simpa using k1)]
              exact h
            go_wp2
            go_roundw
            case rel => exact ⟨k + 1, by omega, by go_num, by rw [HT1.out], HRC.out, HBC.out⟩
            case measure => simp [intOf]; omega
    · have e : k = n := by omega
      subst e
      have CL0 : Hid (Calls Tryd.prog 22 #[.slice (some ⟨g, 0, none⟩) (shAt E k).c cp, .int .i64 0] wr fun e w' => e = .returned (.int .i64 ((shAt E k).N 0).parent) ∧ RowIs w' w1.heap.size (.slice (some ⟨g, 0, none⟩) (shAt E k).c cp) (shAt E k).c (doneN (shAt E k)) ∧ Below w1.heap.size wr w') :=
        closed_is g cp _ 0 _ _ _ hrow hinv.pos (by omega) hg3
      clear hrow hbr hnds hinv hlen hlv
      generalize ((shAt E k).N 0).parent = P0 at *
      go_wp2_with (first | (go_at_call 22; refine CL0.out.mono ?_; rintro e w2 ⟨rfl, hr2, hb2⟩))
      go_ret2
      exact ⟨_, rfl, hr2.is, HBW.out _ (HBR.out.trans hb2)⟩
end Go.Proofs.YtpccfjoklinaiaaDoor
