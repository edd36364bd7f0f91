/-
  CONTRACT of xml.Check.
-/
import Derived.Test.YtoifdcipialciaaDoorEvent
import Derived.Deep.RegionWith
import Derived.Deep.Cut
import Derived.Deep.CutRange
set_option linter.unusedVariables false
namespace Go.Proofs.YtoifdcipialciaaDoor
open Go.RowKit

theorem checkEvent_any (x : Ev) (b off m cap d : Nat) (E : Nat → Ev) (w : World) (hm : m < 400) (hnl : x.name.size ≤ Go.maxLen) (hvl : x.value.size ≤ Go.maxLen) (henv : Env w) (hb0 : b < w.heap.size)
    (hE : EvsAt w b off m E) (h0 : 0 < m → (E 0).kind ≠ 2) (hdm : 0 < d → 0 < m) :
    Calls Tryd.prog 18 #[.slice (some ⟨b, off, none⟩) m cap, .agg #[.int .i64 x.kind, .string x.name, .string x.value], .int .i64 d] w fun e w' => e = .returned (.int .i64 (evF E m d x)) ∧ Below w.heap.size w w' := by
  obtain ⟨k, n, v⟩ := x
  by_cases h1 : k < 1 ∨ 5 < k
  · exact event_kind k n v b off m cap d E w hm h1
  by_cases h2 : d = 0 ∧ (k ≠ 1 ∨ 0 < m)
  · exact event_form k n v b off m cap d E w hm (by omega) (by omega) h2
  have h2' : 0 < d ∨ (d = 0 ∧ k = 1 ∧ m = 0) := by omega
  by_cases h3 : nameOfF ⟨k, n, v⟩ = 0
  · by_cases h4 : valueOfF ⟨k, n, v⟩ = 0
    · have hk : k = 1 ∨ k = 2 ∨ k = 3 ∨ k = 4 ∨ k = 5 := by omega
      rcases hk with rfl | rfl | rfl | rfl | rfl
      · exact event_start n v b off m cap d E w hm hnl hvl henv hb0 h2' h3 h4
      · have hd : 0 < d := by omega
        exact event_attr n v b off m cap d E w hm hnl hvl henv hb0 hE (hdm hd) (h0 (hdm hd)) hd h3 h4
      · have hd : 0 < d := by omega
        exact event_text n v b off m cap d E w hm hnl hvl henv hb0 hE (hdm hd) hd h3 h4
      · exact event_comment n v b off m cap d E w hm hnl hvl henv hb0 (by omega) h3 h4
      · exact event_end n v b off m cap d E w hm hnl hvl henv hb0 (by omega) h3 h4
    · exact event_value k n v b off m cap d E w hm hnl hvl henv hb0 (by omega) (by omega) h2' h3 h4
  · exact event_name k n v b off m cap d E w hm hnl (by omega) (by omega) h2' h3

set_option maxHeartbeats 800000 in
theorem check_some (b off n cap : Nat) (E : Nat → Ev) (w : World) (hn : n ≤ 400) (hcap : n ≤ cap) (henv : Env w) (hb0 : b < w.heap.size) (hE : EvsAt w b off n E)
    (hsz : ∀ i, i < n → (E i).name.size ≤ Go.maxLen ∧ (E i).value.size ≤ Go.maxLen) :
    Calls Tryd.prog 9 #[.slice (some ⟨b, off, none⟩) n cap] w fun e w' => e = .returned (.int .i64 (checkN E n)) ∧ Below w.heap.size w w' := by
  have HE : Hid (EvsAt w b off n E) := hE
  have HS : Hid (∀ i, i < n → (E i).name.size ≤ Go.maxLen ∧ (E i).value.size ≤ Go.maxLen) := hsz
  have HV : Hid (Env w) := henv
  clear hE hsz henv
  go_enter Tryd.func9, Tryd.ntmps9
  go_wp2
  go_loopw [3, 12] (fun o i wr => ∃ k : Nat, k ≤ n ∧ i = .int .i64 k ∧ o = .int .i64 (stAt E k).d ∧ okTo E k ∧ Below w.heap.size w wr) (fun _ i _ => n - (intOf i).toNat)
  case atStart => exact ⟨0, Nat.zero_le _, rfl, rfl, okTo_zero E, Below.refl _ _⟩
  case round =>
    obtain ⟨k, hk, rfl, rfl, hok, hbr⟩ := hrel
    by_cases hlt : k < n
    · obtain ⟨e1, e2, e3⟩ := HE.out.below hbr hb0 k hlt
      have HOK : Hid (okTo E k) := hok
      have HBR : Hid (Below w.heap.size w wr) := hbr
      have hkc : (k : Int) ≤ (cap : Int) := by omega
      have hkc2 : k ≤ cap := by omega
      have hk0 : (0 : Int) ≤ (k : Int) := by omega
      have CE : Hid (∀ W, Below (wr.heap.size + 1) (wr.alloc (.cells #[.int .i64 (E k).kind, .string (E k).name, .string (E k).value] 31)) W →
          Calls Tryd.prog 18 #[.slice (some ⟨b, off, none⟩) k cap, .agg #[.int .i64 (E k).kind, .string (E k).name, .string (E k).value], .int .i64 (stAt E k).d] W fun e w' => e = .returned (.int .i64 (errAt E k)) ∧ Below W.heap.size W w') := by
        intro W hW
        have hw : Below w.heap.size w W := (hbr.alloc hbr.size _).trans (hW.mono (by have := hbr.size; omega))
        have hd : (stAt E k).d = 0 ∨ 0 < k := by
          have := d_inv (E := E) k
          omega
        rw [← evF_eq hok hd]
        exact checkEvent_any (E k) b off k cap (stAt E k).d E W (by omega) (HS.out k hlt).1 (HS.out k hlt).2 (HV.out.below hw) (Nat.lt_of_lt_of_le hb0 hw.size)
          ((HE.out.below hw hb0).less (by omega)) (fun h => by rw [first_start hok h]; decide) (fun h => by have := d_inv (E := E) k; omega)
      clear hok hbr
      go_wp2
      go_cut [6] from 13 to 36 (fun s wx => s = .int .i64 (errAt E k) ∧ Below (wr.heap.size + 1) (wr.alloc (.cells #[.int .i64 (E k).kind, .string (E k).name, .string (E k).value] 31)) wx)
      case first =>
        go_region_with (go_at_call 18; refine (CE.out _ (by repeat (first | exact Below.refl _ _ | apply Below.drew))).mono ?_; rintro e w1 ⟨rfl, hb⟩)
        all_goals (go_wp2_with fail; go_meet; exact ⟨rfl, Below.trans (by repeat (first | exact Below.refl _ _ | apply Below.drew)) (hb.mono (by simp))⟩)
      case rest =>
        obtain ⟨rfl, hbc⟩ := hcut
        have hcK : wc.cell? ⟨wr.heap.size, 0, none⟩ = some (.int .i64 (E k).kind) := (hbc.cell (p := ⟨wr.heap.size, 0, none⟩) (by simp)).trans (by simp)
        have HC : Hid (Below w.heap.size w wc) := (HBR.out.alloc HBR.out.size _).trans (hbc.mono (by have := HBR.out.size; omega))
        clear hbc CE
        by_cases hz : errAt E k = 0
        · have HO1 : Hid (okTo E (k + 1)) := okTo_succ HOK.out hz
          have HD : Hid ((stAt E (k + 1)).d = if (E k).kind = 1 then (stAt E k).d + 1 else if (E k).kind = 5 then (stAt E k).d - 1 else (stAt E k).d) := rfl
          have hdb := d_inv (E := E) k
          cases k1 : ((E k).kind == 1)
          · cases k5 : ((E k).kind == 5)
            · have HD1 : Hid ((stAt E (k + 1)).d = (stAt E k).d) := by
                have e : (stAt E (k + 1)).d = (stAt E k).d := by rw [HD.out, if_neg (by simpa using k1), if_neg (by simpa using k5)]
                exact e
              generalize hdd : (stAt E k).d = d at *
              clear HD
              go_wp2
              go_roundw
              case rel => exact ⟨k + 1, by omega, by go_num, by rw [HD1.out], HO1.out, HC.out⟩
              case measure => simp [intOf]; omega
            · have HD1 : Hid ((stAt E (k + 1)).d + 1 = (stAt E k).d) := by
                have e : (stAt E (k + 1)).d + 1 = (stAt E k).d := by
                  have e1 := (err_zero hz).2.1
                  have e2 : (E k).kind = 5 := by simpa using k5
                  have e3 : ¬ (stAt E k).d = 0 := fun h => e1 ⟨h, .inl (by omega)⟩
                  rw [HD.out, if_neg (by simpa using k1), if_pos e2]; omega
                exact e
              generalize hdd : (stAt E k).d = d at *
              clear HD
              go_wp2
              go_roundw
              case rel => exact ⟨k + 1, by omega, by go_num, by have := HD1.out; go_num, HO1.out, HC.out⟩
              case measure => simp [intOf]; omega
          · have HD1 : Hid ((stAt E (k + 1)).d = (stAt E k).d + 1) := by
              have e : (stAt E (k + 1)).d = (stAt E k).d + 1 := by rw [HD.out, if_pos (by simpa using k1)]
              exact e
            generalize hdd : (stAt E k).d = d at *
            clear HD
            go_wp2
            go_roundw
            case rel => exact ⟨k + 1, by omega, by go_num, by have := HD1.out; go_num, HO1.out, HC.out⟩
            case measure => simp [intOf]; omega
        · have HF : Hid (checkN E n = errAt E k) := checkN_err (by omega) hlt HOK.out hz
          have hne : (errAt E k != 0) = true := by simpa using hz
          clear hz
          go_wp2
          go_ret
          exact ⟨ret_int HF.out.symm, HC.out⟩
    · have e : k = n := by omega
      subst e
      have HF : Hid (checkN E k = if k = 0 ∨ 0 < (stAt E k).d then 5 else 0) := checkN_end (by omega) hok
      have HBR : Hid (Below w.heap.size w wr) := hbr
      have hdb := d_inv (E := E) k
      clear hok hbr
      generalize (stAt E k).d = d at *
      by_cases c1 : k = 0 ∨ 0 < d
      · have HF5 : Hid (checkN E k = 5) := by
          have e : checkN E k = 5 := by rw [HF.out, if_pos c1]
          exact e
        rcases Nat.eq_zero_or_pos k with h0 | h0
        · subst h0
          go_wp2
          go_ret
          exact ⟨ret_int HF5.out.symm, HBR.out⟩
        · have h1 : ((k : Int) == 0) = false := by simp; omega
          have h2 : (0 : Int) < (d : Int) := by omega
          clear c1
          go_wp2
          go_ret
          exact ⟨ret_int HF5.out.symm, HBR.out⟩
      · have HF0 : Hid (checkN E k = 0) := by
          have e : checkN E k = 0 := by rw [HF.out, if_neg c1]
          exact e
        have h1 : ((k : Int) == 0) = false := by simp; omega
        have h2 : ¬ (0 : Int) < (d : Int) := by omega
        clear c1
        go_wp2
        go_ret
        exact ⟨ret_int HF0.out.symm, HBR.out⟩
end Go.Proofs.YtoifdcipialciaaDoor
