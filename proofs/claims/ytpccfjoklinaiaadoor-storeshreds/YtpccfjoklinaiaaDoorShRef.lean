/-
  CONTRACT of the document's answer on shredding (ShreddedOf).
-/
import Derived.Test.YtpccfjoklinaiaaDoorShRefP
import Derived.Test.YtpccfjoklinaiaaDoorShClosed
import Derived.Deep.RegionLaw
import Derived.Laws.OwnMore
set_option linter.unusedVariables false
namespace Go.Proofs.YtpccfjoklinaiaaDoor
open Go.RowKit

set_option maxHeartbeats 3200000 in
set_option maxRecDepth 100000 in
theorem shredded_some (b off n cap : Nat) (E : Nat → Ev) (w : World) (hn : n ≤ 400) (hcap : n ≤ cap) (hb0 : b < w.heap.size) (hE : EvsAt w b off n E) (hok : okTo E n)
    (hC : Calls Tryd.prog 23 #[.slice (some ⟨b, off, none⟩) n cap] w fun e w' => e = .returned (.int .i64 0) ∧ Below w.heap.size w w') :
    Calls Tryd.prog 9 #[.slice (some ⟨b, off, none⟩) n cap] w fun e w' => ∃ v, e = .returned (.tuple #[v, .int .i64 0]) ∧ NdsIs w' v (shAt E n).c (refN (shAt E n)) ∧ Below w.heap.size w w' := by
  have CC : Hid (Calls Tryd.prog 23 #[.slice (some ⟨b, off, none⟩) n cap] w fun e w' => e = .returned (.int .i64 0) ∧ Below w.heap.size w w') := hC
  have HE : Hid (∀ W, Below w.heap.size w W → EvsAt W b off n E) := fun W hW => hE.below hW hb0
  have HOK : Hid (okTo E n) := hok
  obtain ⟨i0, hi0, hz0, hz1, hz2⟩ := info_parts info42
  clear hE hC hok
  go_enter Tryd.func9, Tryd.ntmps9
  go_wp2_with (first | (go_at_call 23; refine CC.out.mono ?_; rintro e w1 ⟨rfl, hb1⟩))
  have HB1 : Hid (Below w.heap.size w w1) := hb1
  have hz1w : w.heap.size ≤ w1.heap.size := hb1.size
  clear hb1 CC
  have HR0 : Hid (RowIs (w1.alloc (.cells #[.int .i64 6, .string ByteArray.empty, .string ByteArray.empty, .int .i64 0, .int .i64 0, .int .i64 (-1)] 42)) w1.heap.size (.slice (some ⟨w1.heap.size, 0, none⟩) 1 1) 1 (refN (shAt E 0))) := RowIs.one ⟨6, ByteArray.empty, ByteArray.empty, 0, 0, -1⟩ _ (refN_zero E) (Nat.le_refl _)
  go_loopw [5, 6, 7] (fun nd op q wr => ∃ k : Nat, k ≤ n ∧ q = .int .i64 k ∧ op = .int .i64 (topO (shAt E k) : Int) ∧ RowIs wr w1.heap.size nd (shAt E k).c (refN (shAt E k)) ∧ Below w1.heap.size w1 wr) (fun _ _ q _ => n - (intOf q).toNat)
  case atStart => exact ⟨0, Nat.zero_le _, rfl, rfl, HR0.out, (Below.refl _ _).alloc (Nat.le_refl _) _⟩
  case round =>
    obtain ⟨k, hk, rfl, rfl, hrow, hbr⟩ := hrel
    obtain ⟨hinv, hlen, hck⟩ := sh_len (E := E) (k := k) (fun j hj => HOK.out j (by omega))
    obtain ⟨g, cp, rfl, hg1, hg2, hg3, hnds⟩ := hrow.place hinv.pos
    have htop := hinv.top
    have hlv := hinv.lv _ htop
    have HINV : Hid (ShInv (shAt E k)) := hinv
    have HLEN : Hid ((shAt E k).st.length = (stAt E k).d + 1) := hlen
    have HROW : Hid (RowIs wr w1.heap.size (.slice (some ⟨g, 0, none⟩) (shAt E k).c cp) (shAt E k).c (refN (shAt E k))) := hrow
    have HBR : Hid (Below w1.heap.size w1 wr) := hbr
    have hzr : w1.heap.size ≤ wr.heap.size := hbr.size
    have HBW : Hid (∀ W, Below w1.heap.size w1 W → Below w.heap.size w W) := fun W hW => HB1.out.trans (hW.mono hz1w)
    by_cases hlt : k < n
    · obtain ⟨e1, e2, e3⟩ := HE.out wr (HBW.out wr hbr) k hlt
      have HST : Hid (shAt E (k + 1) = shStep (shAt E k) (E k)) := rfl
      have HERR : Hid (errAt E k = 0) := HOK.out k hlt
      have hbz : b < wr.heap.size := by omega
      obtain ⟨_, _, _, _, l5, l6⟩ := hnds (topO (shAt E k)) htop
      simp only [Nat.zero_add] at l5 l6
      rw [(refN_same _ _).1] at l5
      rw [(refN_same _ _).2] at l6
      by_cases k5 : (E k).kind = 5
      · have hd1 : 1 < (shAt E k).st.length := by
          have := (err_zero HERR.out).2.1
          rw [HLEN.out]
          have : (stAt E k).d ≠ 0 := fun h0 => this ⟨h0, .inl (by omega)⟩
          omega
        obtain ⟨o', ho1, ho2⟩ := sh_pop hinv hd1
        have HS1 : Hid ((shAt E (k + 1)).c = (shAt E k).c ∧ topO (shAt E (k + 1)) = o') := by
          have h : (shAt E (k + 1)).c = (shAt E k).c ∧ topO (shAt E (k + 1)) = o' := by
            rw [HST.out]; unfold shStep; rw [if_pos k5]; exact ⟨rfl, ho1⟩
          exact h
        have HR2 : Hid (RowIs wr w1.heap.size (.slice (some ⟨g, 0, none⟩) (shAt E k).c cp) (shAt E (k + 1)).c (refN (shAt E (k + 1)))) := by
          have h : RowIs wr w1.heap.size (.slice (some ⟨g, 0, none⟩) (shAt E k).c cp) (shAt E (k + 1)).c (refN (shAt E (k + 1))) := by
            rw [HS1.out.1]
            refine HROW.out.congr fun j hj => ?_
            rw [HST.out, refN_end hinv k5]
          exact h
        rw [ho2] at l6
        rw [k5] at e1
        clear hrow hbr hnds hinv hlen ho1 ho2 hd1 k5 hlv
        generalize (shAt E k).c = c at *
        generalize topO (shAt E k) = o at *
        go_wp2
        go_roundw
        case rel => exact ⟨k + 1, by omega, by go_num, by rw [HS1.out.2], HR2.out, HBR.out⟩
        case measure => simp [intOf]; omega
      · have hk5 : ((E k).kind == 5) = false := by simpa using k5
        have HS1 : Hid ((shAt E (k + 1)).c = (shAt E k).c + 1 ∧ topO (shAt E (k + 1)) = (if (E k).kind = 1 then (shAt E k).c else topO (shAt E k))) := by
          have h : (shAt E (k + 1)).c = (shAt E k).c + 1 ∧ topO (shAt E (k + 1)) = (if (E k).kind = 1 then (shAt E k).c else topO (shAt E k)) := by
            rw [HST.out]; unfold shStep; rw [if_neg k5]
            refine ⟨rfl, ?_⟩
            show (if (E k).kind = 1 then (shAt E k).c :: (shAt E k).st else (shAt E k).st).headD 0 = _
            split <;> rfl
          exact h
        have HPE : Hid (∀ j, j < (shAt E k).c + 1 → partN (shAt E k) (E k) [] j = refN (shAt E (k + 1)) j) := fun j hj => by rw [HST.out]; exact part_end hinv k5 j hj
        have HPS : Hid (∀ l o r, (shAt E k).st = l ++ (o :: r) → Links (shAt E k).N (o :: r) → o < (shAt E k).c ∧ o ∉ r ∧ o ∈ (shAt E k).st) := fun l o r h1 h2 => by
          have hm : o ∈ (shAt E k).st := by rw [h1]; simp
          exact ⟨hinv.lt o hm, fun h3 => by have := Links.le h2 o h3; omega, hm⟩
        have HTL : Hid (Links (shAt E k).N (shAt E k).st) := hinv.links
        have HHD : Hid (headI (shAt E k).st = (topO (shAt E k) : Int)) := by
          obtain ⟨r, hr⟩ := hinv.ne
          have h : headI (shAt E k).st = (topO (shAt E k) : Int) := by
            generalize topO (shAt E k) = o at *
            rw [hr]; rfl
          exact h
        have HRX : Hid (RowIs wr w1.heap.size (.slice (some ⟨g, 0, none⟩) (shAt E k).c cp) (shAt E k).c (partN (shAt E k) (E k) (shAt E k).st)) := HROW.out.congr (fun j hj => by rw [part_start, if_neg (by omega)])
        have HNW : Hid (partN (shAt E k) (E k) (shAt E k).st (shAt E k).c = ⟨(E k).kind, (E k).name, (E k).value, 0, IntKind.i64.wrap (((shAt E k).N (topO (shAt E k))).level + 1), (topO (shAt E k) : Int)⟩) := by
          have h : partN (shAt E k) (E k) (shAt E k).st (shAt E k).c = ⟨(E k).kind, (E k).name, (E k).value, 0, IntKind.i64.wrap (((shAt E k).N (topO (shAt E k))).level + 1), (topO (shAt E k) : Int)⟩ := by rw [part_start, if_pos rfl, IntWalk.i64_in _ (by omega)]; rfl
          exact h
        clear hrow hbr hnds hinv hlen k5
        generalize hsh : shAt E k = s at *
        have hoI : (topO s : Int) < (s.c : Int) := by omega
        generalize topO s = o at *
        generalize (s.N o).level = lo at *
        go_upto_region 12 with fail
        go_cut [5] from 17 to 84 (fun v wx => RowIs wx w1.heap.size v (s.c + 1) (partN s (E k) s.st) ∧ Below w1.heap.size w1 wx)
        case first =>
          go_region_law (refine step_append_row rfl (.tmp 36) (.tmp 60) 23 rfl w1.heap.size 42 i0 _ 6 64 Tryd.underlying23 hi0 hz0 hz1 hz2 rfl (by decide) (.slice (some ⟨g, 0, none⟩) s.c cp) s.c (ndCells (partN s (E k) s.st) s.c) (by simp [Act.eval]) ((HRX.out.alloc _).heap rfl) ⟨wr.heap.size, 0, none⟩ 1 1 (six ⟨(E k).kind, (E k).name, (E k).value, 0, IntKind.i64.wrap (lo + 1), (o : Int)⟩) (by simp [Act.eval]) rfl (by intro j u hj; have h := six_in (w := wr) 0 ⟨(E k).kind, (E k).name, (E k).value, 0, IntKind.i64.wrap (lo + 1), (o : Int)⟩ j u hj; simpa using h) (six_one _) (by unfold maxLen; omega) (by omega) (by simp; omega) ?_; intro v6 w6 hown6 hgrow6 _; have HR6 : Hid (RowIs w6 w1.heap.size v6 (s.c + 1) (partN s (E k) s.st)) := RowIs.pushed hown6 HNW.out; have HG6 : Hid (Below w1.heap.size w1 w6) := Below.grown (by repeat (first | exact HBR.out | apply below_alloc2 _ (Nat.le_refl _) | apply Below.drew)) hgrow6 (by simp; omega) (fun q hq => by simp [Value.ownBlock] at hq; omega); clear hown6 hgrow6)
          all_goals (go_wp2_with fail; go_meet; exact ⟨HR6.out, HG6.out⟩)
        case rest =>
          obtain ⟨hrc, hbc⟩ := hcut
          obtain ⟨g2, cp2, rfl, hh1, hh2, hh3, _⟩ := hrc.place (by omega)
          have HRC : Hid (RowIs wc w1.heap.size (.slice (some ⟨g2, 0, none⟩) (s.c + 1) cp2) (s.c + 1) (partN s (E k) s.st)) := hrc
          have HBC : Hid (Below w1.heap.size w1 wc) := hbc
          have HZ : Hid (w1.heap.size ≤ wr.heap.size) := hzr
          clear hrc hbc hzr hbz hg2 e1 e2 e3 l5 l6
          go_wp2
          go_loopw [9] (fun p wr => ∃ l : List Nat, (∃ pre, s.st = pre ++ l) ∧ p = .int .i64 (headI l) ∧ (l = [] ∨ Links s.N l) ∧ RowIs wr w1.heap.size (.slice (some ⟨g2, 0, none⟩) (s.c + 1) cp2) (s.c + 1) (partN s (E k) l) ∧ Below w1.heap.size w1 wr) (fun p _ => (intOf p + 1).toNat)
          case atStart => exact ⟨s.st, ⟨[], rfl⟩, by rw [HHD.out], .inr HTL.out, HRC.out, HBC.out⟩
          case round =>
            obtain ⟨l, ⟨pre, hpre⟩, rfl, hlk, hrow2, hbr2⟩ := hrel
            have HRW : Hid (RowIs wr w1.heap.size (.slice (some ⟨g2, 0, none⟩) (s.c + 1) cp2) (s.c + 1) (partN s (E k) l)) := hrow2
            have HBB : Hid (Below w1.heap.size w1 wr) := hbr2
            have hzr : w1.heap.size ≤ wr.heap.size := hbr2.size
            cases l with
            | nil =>
              obtain ⟨e1, e2, e3⟩ := HE.out wr (HBW.out wr hbr2) k hlt
              have hbz : b < wr.heap.size := by omega
              have hRn : RowIs wr w1.heap.size (.slice (some ⟨g2, 0, none⟩) (s.c + 1) cp2) (shAt E (k + 1)).c (refN (shAt E (k + 1))) := by rw [HS1.out.1]; exact HRW.out.congr HPE.out
              have HRN : Hid (RowIs wr w1.heap.size (.slice (some ⟨g2, 0, none⟩) (s.c + 1) cp2) (shAt E (k + 1)).c (refN (shAt E (k + 1)))) := hRn
              clear hrow2 hbr2 hRn hpre hlk HRW
              simp only [headI]
              cases k1 : ((E k).kind == 1)
              · have HT1 : Hid (topO (shAt E (k + 1)) = o) := by
                  have h : topO (shAt E (k + 1)) = o := by rw [HS1.out.2, if_neg (by simpa using k1)]
                  exact h
                go_wp2
                go_roundw
                case rel => exact ⟨k + 1, by omega, by go_num, by rw [HT1.out], HRN.out, HBB.out⟩
                case measure => simp [intOf]; omega
              · have HT1 : Hid (topO (shAt E (k + 1)) = s.c) := by
                  have h : topO (shAt E (k + 1)) = s.c := by rw [HS1.out.2, if_pos (by simpa using k1)]
                  exact h
                go_wp2
                go_roundw
                case rel => exact ⟨k + 1, by omega, by go_num, by rw [HT1.out], HRN.out, HBB.out⟩
                case measure => simp [intOf]; omega
            | cons p r =>
              have hl2 : Links s.N (p :: r) := by rcases hlk with h | h; cases h; exact h
              obtain ⟨hp1, hp2, hp3⟩ := HPS.out pre p r hpre hl2
              obtain ⟨hx1, hx2⟩ := links_next hl2
              have hsz := ref_size hp3
              obtain ⟨g', cp', hsl, _, hgz, _, hnd2⟩ := hrow2.place (by omega)
              simp only [Value.slice.injEq, Option.some.injEq, Addr.mk.injEq, and_true, true_and] at hsl
              obtain ⟨rfl, rfl⟩ := hsl
              obtain ⟨_, _, _, f4, _, f6⟩ := hnd2 p (by omega)
              simp only [Nat.zero_add] at f4 f6
              rw [part_at hp1] at f4 f6
              rw [(refN_same _ _).2, hx1] at f6
              have fr : wr.frozen? ⟨g2, p * 6 + 3, none⟩ = false := World.ownsRow.frozenAt hrow2 _
              have hst := hrow2.stored p (by omega) ((refN s p).size + 1)
              have HST2 : Hid (RowIs (wr.setCell ⟨g2, p * 6 + 3, none⟩ (.int .i64 ((refN s p).size + 1))) w1.heap.size (.slice (some ⟨g2, 0, none⟩) (s.c + 1) cp2) (s.c + 1) (partN s (E k) r)) := hst.1.congr (fun j hj => part_step hp3 hp2 hp1 j)
              have HBL2 : Hid (Below w1.heap.size w1 (wr.setCell ⟨g2, p * 6 + 3, none⟩ (.int .i64 ((refN s p).size + 1)))) := hbr2.grown hst.2 (by omega) (fun k hk => by simp at hk; omega)
              have HX2 : Hid (r = [] ∨ Links s.N r) := hx2
              have HPR : Hid (∃ pre', s.st = pre' ++ r) := ⟨pre ++ [p], by rw [hpre]; simp⟩
              have hr1 : -1 ≤ headI r ∧ headI r < p := by
                cases r with
                | nil => simp [headI]; omega
                | cons o' r => have := hl2.2.1; simp [headI]; omega
              clear hrow2 hbr2 hst hnd2 hlk hl2 hx1 hx2 hpre HRW hp2 hp3
              rw [show headI (p :: r) = (p : Int) from rfl]
              have hzb : 0 ≤ (refN s p).size ∧ (refN s p).size ≤ 1000 := by omega
              clear hsz
              generalize (refN s p).size = z at *
              generalize hhr : headI r = hr at *
              have HHR : Hid (headI r = hr) := hhr
              clear hhr
              go_wp2
              go_roundw
              case rel => exact ⟨r, HPR.out, by rw [HHR.out], HX2.out, HST2.out, HBL2.out⟩
              case measure => simp [intOf]; omega
    · have e : k = n := by omega
      subst e
      clear hrow hbr hnds hinv hlen hlv
      go_wp2
      go_ret2
      exact ⟨_, rfl, HROW.out.is, HBW.out _ HBR.out⟩
end Go.Proofs.YtpccfjoklinaiaaDoor
