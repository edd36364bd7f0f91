import Derived.Test.YtbnlekhjgkojlaaGreatDoorTcPlain
import Derived.Test.YtbnlekhjgkojlaaGreatDoorPkPick
import Derived.Shelf.Strings.SlTrimAscii
set_option linter.unusedVariables false
namespace Go.Proofs.YtbnlekhjgkojlaaGreatDoor
set_option maxRecDepth 100000
open Go.RowKit
theorem ext_drop (s : ByteArray) (b : Nat) : (s.extract b s.size).data.toList = s.data.toList.drop b := by
 rw [Lib.extract_data]
 refine List.take_of_length_le ?_
 rw [List.length_drop]; simp
theorem ext_take (s : ByteArray) (b m : Nat) : (s.extract b (b + m)).data.toList = (s.data.toList.drop b).take m := by
 rw [Lib.extract_data]; congr 1; omega
theorem bs_eq {x : ByteArray} {l : List UInt8} (h : x.data.toList = l) : x = bs l := by rw [← h, bs_of]
theorem clone_any (s : ByteArray) (w : World) (hs : s.size ≤ 1000) :
 Calls Tryz.prog 57 #[.string s] w fun e w' => e = .returned (.string s) ∧ Below w.heap.size w w' := by
 have C : Hid (Calls Tryz.prog 76 #[.string s] w fun e w' => e = .returned (.string s) ∧ Below w.heap.size w w') := Tryz.stringslite_Clone s w (by omega)
 go_enter Tryz.func57, Tryz.ntmps57
 go_wp2_with (go_at_call 76; refine C.out.mono ?_; rintro e w1 ⟨rfl, hb⟩)
 go_ret
 exact ⟨rfl, hb⟩
theorem trim_any (s : ByteArray) (w : World) :
 Calls Tryz.prog 27 #[.string s, .string ⟨#[32, 10, 9]⟩] w fun e w' => e = .returned (.string (bs (s.data.toList.drop (bl s.data.toList)))) ∧ Below w.heap.size w w' := by
 have := Any.strings_TrimLeft_ascii Tryz.lays161 (fun _ => by kernel_rfl) (by kernel_rfl) s ⟨#[32, 10, 9]⟩ w (by decide) (by
  intro j b hj
  match j, hj with
  | 0, hj => simp at hj; subst hj; decide
  | 1, hj => simp at hj; subst hj; decide
  | 2, hj => simp at hj; subst hj; decide)
 rw [show (⟨#[32, 10, 9]⟩ : ByteArray).data.toList = [32, 10, 9] from rfl, bl_trim] at this
 exact this
set_option maxHeartbeats 400000 in
theorem blankBytes_any (s : ByteArray) (w : World) (hs : s.size ≤ 1000) :
 Calls Tryz.prog 14 #[.string s] w fun e w' => e = .returned (.int .i64 (bl s.data.toList)) ∧ Below w.heap.size w w' := by
 have C : Hid (Calls Tryz.prog 27 #[.string s, .string ⟨#[32, 10, 9]⟩] w fun e w' => e = .returned (.string (bs (s.data.toList.drop (bl s.data.toList)))) ∧ Below w.heap.size w w') := trim_any s w
 have hle : bl s.data.toList ≤ s.size := bl_le _
 have hz : (bs (s.data.toList.drop (bl s.data.toList))).size = s.size - bl s.data.toList := by rw [bs_size, List.length_drop]; rfl
 generalize bl s.data.toList = B at *
 generalize bs (s.data.toList.drop B) = T at *
 have hT : T.size ≤ 1000 := by omega
 have HZ : Hid (T.size = s.size - B) := hz
 clear hz
 go_enter Tryz.func14, Tryz.ntmps14
 go_wp2_with (go_at_call 27; refine C.out.mono ?_; rintro e w1 ⟨rfl, hb⟩)
 go_ret
 exact ⟨ret_int (by have := HZ.out; omega), hb⟩
theorem nmB_take (x : List UInt8) : nmB (bs (x.take (wl x true))) = decide (1 ≤ wl x true ∧ wl x true ≤ 20) := by
 have h1 := wl_le x true
 unfold nmB
 rw [bs_list, wl_take, bs_size, List.length_take, Nat.min_eq_left h1]
 simp
def resV (r : Int × Tok × Nat) : Value := .tuple #[tokV r.2.1, .int .i64 (r.2.2 : Int), .int .i64 r.1]
def nameR (k : Int) (x : List UInt8) (b : Nat) : Int × Tok × Nat := if 1 ≤ wl x true ∧ wl x true ≤ 20 then (0, ⟨k, bs (x.take (wl x true)), 0⟩, b + wl x true) else (10, tok0, 0)
set_option maxHeartbeats 800000 in
theorem name_any (k : Int) (s : ByteArray) (b : Nat) (w : World) (hs : s.size ≤ 1000) (hb : b ≤ s.size) :
 Calls Tryz.prog 29 #[.int .i64 k, .string s, .int .i64 b] w fun e w' => e = .returned (resV (nameR k (s.data.toList.drop b) b)) ∧ Below w.heap.size w w' := by
 have CW : Hid (∀ W, Calls Tryz.prog 55 #[.string (s.extract b s.size)] W fun e w' => e = .returned (.int .i64 (wl (s.data.toList.drop b) true)) ∧ w' = W) := fun W => by
  have := wordBytes_any (s.extract b s.size) W (by unfold maxLen; simp; omega)
  rw [ext_drop] at this
  exact this
 have hle : wl (s.data.toList.drop b) true ≤ s.size - b := by
  have := wl_le (s.data.toList.drop b) true
  rw [List.length_drop] at this; exact this
 have HX : Hid (s.extract b (b + wl (s.data.toList.drop b) true) = bs ((s.data.toList.drop b).take (wl (s.data.toList.drop b) true))) := bs_eq (ext_take _ _ _)
 have HM : Hid (nmB (bs ((s.data.toList.drop b).take (wl (s.data.toList.drop b) true))) = decide (1 ≤ wl (s.data.toList.drop b) true ∧ wl (s.data.toList.drop b) true ≤ 20)) := nmB_take _
 have HF : Hid (nameR k (s.data.toList.drop b) b = if 1 ≤ wl (s.data.toList.drop b) true ∧ wl (s.data.toList.drop b) true ≤ 20 then (0, ⟨k, bs ((s.data.toList.drop b).take (wl (s.data.toList.drop b) true)), 0⟩, b + wl (s.data.toList.drop b) true) else (10, tok0, 0)) := rfl
 generalize nameR k (s.data.toList.drop b) b = F at *
 generalize wl (s.data.toList.drop b) true = L at *
 generalize bs ((s.data.toList.drop b).take L) = T at *
 have hT : T.size ≤ 1000 := by rw [← HX.out]; simp; omega
 have hTL : T.size = L := by rw [← HX.out]; simp; omega
 have CN : Hid (∀ W, Calls Tryz.prog 56 #[.string T] W fun e w' => e = .returned (.bool (nmB T)) ∧ w' = W) := fun W => isName_any2 T W (by unfold maxLen; omega)
 have CC : Hid (∀ W, Calls Tryz.prog 57 #[.string T] W fun e w' => e = .returned (.string T) ∧ Below W.heap.size W w') := fun W => clone_any T W hT
 rw [HM.out] at CN
 have hx := HX.out
 clear HM
 by_cases hc : 1 ≤ L ∧ L ≤ 20
 · rw [decide_eq_true hc] at CN
   have HR : Hid (F = (0, ⟨k, T, 0⟩, b + L)) := HF.out.trans (if_pos hc)
   clear hc HF
   go_enter Tryz.func29, Tryz.ntmps29
   go_wp2_with (first
    | (go_at_call 55; refine (CW.out _).mono ?_; rintro e w1 ⟨rfl, rfl⟩)
    | (go_at_call 56; refine (CN.out _).mono ?_; rintro e w1 ⟨rfl, rfl⟩)
    | (go_at_call 57; refine (CC.out _).mono ?_; rintro e w1 ⟨rfl, hb1⟩; obtain ⟨hc1, hf1⟩ := bcell hb1; have hz1 : w.heap.size < w1.heap.size := (by have := hb1.size; simp at this; omega); have HB1 : Hid (Below w.heap.size w w1) := ((Below.refl _ _).alloc (Nat.le_refl _) _).trans (hb1.mono (by simp)); clear hb1))
   exact bodyPost_ret (v := .tuple #[.agg #[.int .i64 k, .string T, .int .i64 0], .int .i64 ((b : Int) + L), .int .i64 0]) (by simp [results, Tryz.results29, go_sem, hc1]) rfl ⟨by rw [HR.out]; simp [resV, tokV], ((HB1.out.setCell (by simp) _).setCell (by simp) _).setCell (by simp) _⟩
 · rw [decide_eq_false hc] at CN
   have HR : Hid (F = (10, tok0, 0)) := HF.out.trans (if_neg hc)
   clear hc HF
   go_enter Tryz.func29, Tryz.ntmps29
   go_wp2_with (first
    | (go_at_call 55; refine (CW.out _).mono ?_; rintro e w1 ⟨rfl, rfl⟩)
    | (go_at_call 56; refine (CN.out _).mono ?_; rintro e w1 ⟨rfl, rfl⟩))
   exact bodyPost_ret (v := .tuple #[.agg #[.int .i64 0, .string ⟨#[]⟩, .int .i64 0], .int .i64 0, .int .i64 10]) (by simp [results, Tryz.results29, go_sem]) rfl ⟨by rw [HR.out]; simp [resV, tokV, tok0], by first | exact (Below.refl _ _).alloc (Nat.le_refl _) _ | exact ((((Below.refl _ _).alloc (Nat.le_refl _) _).setCell (by simp) _).setCell (by simp) _).setCell (by simp) _⟩
def numR (l : List UInt8) : Int × Tok × Nat := if numV l (dl l) ≤ 1099511627776 then (0, ⟨2, ⟨#[]⟩, numV l (dl l)⟩, dl l) else (2, tok0, 0)
def capV (l : List UInt8) (k : Nat) : Int := min (numV l k) 1099511627777
theorem capV_succ (l : List UInt8) (k : Nat) (h : k < dl l) : capV l (k + 1) = min (10 * capV l k + (bAt l k - 48)) 1099511627777 := by
 have h1 := numV_nonneg l k (by omega)
 have h2 := dgt_iff.1 (dl_lt l k h)
 unfold capV
 rw [numV_succ]
 omega
theorem capV_bd (l : List UInt8) (k : Nat) (h : k ≤ dl l) : 0 ≤ capV l k ∧ capV l k ≤ 1099511627777 := by
 have h1 := numV_nonneg l k h
 unfold capV
 omega
set_option maxHeartbeats 800000 in
theorem number_any (s : ByteArray) (w : World) (hs : s.size ≤ 1000) :
 Calls Tryz.prog 31 #[.string s] w fun e w' => e = .returned (resV (numR s.data.toList)) ∧ Below w.heap.size w w' := by
 have hle : dl s.data.toList ≤ s.size := dl_le _
 have HF : Hid (numR s.data.toList = if numV s.data.toList (dl s.data.toList) ≤ 1099511627776 then (0, ⟨2, ⟨#[]⟩, numV s.data.toList (dl s.data.toList)⟩, dl s.data.toList) else (2, tok0, 0)) := rfl
 generalize numR s.data.toList = F at HF
 go_enter Tryz.func31, Tryz.ntmps31
 go_wp2
 go_loop [5, 6] (fun n i => ∃ k : Nat, k ≤ dl s.data.toList ∧ i = .int .i64 k ∧ n = .int .i64 (capV s.data.toList k)) (fun _ i => s.size - (intOf i).toNat)
 case atStart => exact ⟨0, Nat.zero_le _, rfl, by simp [capV, numV]; omega⟩
 case round =>
  obtain ⟨k, hk, rfl, rfl⟩ := hrel
  obtain ⟨hc1, hc2⟩ := capV_bd s.data.toList k hk
  by_cases hlt : k < dl s.data.toList
  · have hks : k < s.size := by omega
    have hd := dl_lt s.data.toList k hlt
    have HS : Hid (capV s.data.toList (k + 1) = min (10 * capV s.data.toList k + ((s[k].toNat : Int) - 48)) 1099511627777) := by
     have := capV_succ s.data.toList k hlt
     rw [← byteAt_bAt, ← byteAt_eq s k hks] at this
     exact this
    rw [← byteAt_bAt, ← byteAt_eq s k hks] at hd
    obtain ⟨hd3, hd4⟩ := dgt_iff.1 hd
    generalize capV s.data.toList k = V at *
    go_wp2_with (go_at_call 30; refine (isDigit_any _ _).mono ?_; rintro e w' ⟨rfl, rfl⟩)
    go_round
    case rel => exact ⟨k + 1, by omega, by go_num, by rw [HS.out]⟩
    case measure => simp [intOf]; omega
  · have e : k = dl s.data.toList := by omega
    have HC : Hid (capV s.data.toList k = min (numV s.data.toList (dl s.data.toList)) 1099511627777) := by rw [e]; rfl
    have hN : 0 ≤ numV s.data.toList (dl s.data.toList) := numV_nonneg _ _ (Nat.le_refl _)
    have HE : Hid (k = dl s.data.toList) := e
    have hD : ∀ h : k < s.size, dgt (s[k].toNat : Int) = false := fun h => by
     rw [byteAt_eq s k h, byteAt_bAt, e]
     exact dl_eq s.data.toList (by rw [← e]; exact h)
    clear hlt hk e hle
    generalize dl s.data.toList = D at *
    generalize numV s.data.toList D = X at *
    generalize capV s.data.toList k = V at *
    by_cases hX : X ≤ 1099511627776
    · have hv : V ≤ 1099511627776 := by have := HC.out; omega
      have HR : Hid (F = (0, ⟨2, ⟨#[]⟩, V⟩, k)) := HF.out.trans ((if_pos hX).trans (by rw [HE.out, show V = X by have := HC.out; omega]))
      clear HF HC hX
      by_cases hks : k < s.size
      · have hd := hD hks
        clear hD
        go_wp2_with (go_at_call 30; refine (isDigit_any _ _).mono ?_; rintro e w' ⟨rfl, rfl⟩)
        exact bodyPost_ret (v := .tuple #[.agg #[.int .i64 2, .string ⟨#[]⟩, .int .i64 V], .int .i64 k, .int .i64 0]) (by simp [results, Tryz.results31, go_sem]) rfl ⟨by rw [HR.out]; simp [resV, tokV], by first | exact (Below.refl _ _).alloc (Nat.le_refl _) _ | exact ((((Below.refl _ _).alloc (Nat.le_refl _) _).setCell (by simp) _).setCell (by simp) _).setCell (by simp) _⟩
      · clear hD
        go_wp2
        exact bodyPost_ret (v := .tuple #[.agg #[.int .i64 2, .string ⟨#[]⟩, .int .i64 V], .int .i64 k, .int .i64 0]) (by simp [results, Tryz.results31, go_sem]) rfl ⟨by rw [HR.out]; simp [resV, tokV], by first | exact (Below.refl _ _).alloc (Nat.le_refl _) _ | exact ((((Below.refl _ _).alloc (Nat.le_refl _) _).setCell (by simp) _).setCell (by simp) _).setCell (by simp) _⟩
    · have hv : V = 1099511627777 := by have := HC.out; omega
      have HR : Hid (F = (2, tok0, 0)) := HF.out.trans (if_neg hX)
      clear HF HC hX
      subst hv
      by_cases hks : k < s.size
      · have hd := hD hks
        clear hD
        go_wp2_with (go_at_call 30; refine (isDigit_any _ _).mono ?_; rintro e w' ⟨rfl, rfl⟩)
        exact bodyPost_ret (v := .tuple #[.agg #[.int .i64 0, .string ⟨#[]⟩, .int .i64 0], .int .i64 0, .int .i64 2]) (by simp [results, Tryz.results31, go_sem]) rfl ⟨by rw [HR.out]; simp [resV, tokV, tok0], by first | exact (Below.refl _ _).alloc (Nat.le_refl _) _ | exact ((((Below.refl _ _).alloc (Nat.le_refl _) _).setCell (by simp) _).setCell (by simp) _).setCell (by simp) _⟩
      · clear hD
        go_wp2
        exact bodyPost_ret (v := .tuple #[.agg #[.int .i64 0, .string ⟨#[]⟩, .int .i64 0], .int .i64 0, .int .i64 2]) (by simp [results, Tryz.results31, go_sem]) rfl ⟨by rw [HR.out]; simp [resV, tokV, tok0], by first | exact (Below.refl _ _).alloc (Nat.le_refl _) _ | exact ((((Below.refl _ _).alloc (Nat.le_refl _) _).setCell (by simp) _).setCell (by simp) _).setCell (by simp) _⟩
def MaxL (w : World) : Prop := ∃ m, w.cell? ⟨1, 0, none⟩ = some (.int .i64 m)
theorem MaxL.below {w w' : World} (h : MaxL w) (hb : Below w.heap.size w w') : MaxL w' := by
 obtain ⟨m, h⟩ := h
 have hlt : 1 < w.heap.size := by
  unfold World.cell? at h
  by_cases hb : 1 < w.heap.size
  · exact hb
  · rw [Array.getElem?_eq_none (by simpa using hb)] at h
    cases h
 exact ⟨m, (hb.cell (p := ⟨1, 0, none⟩) hlt).trans h⟩
def quoR (x : List UInt8) : Int × Tok × Nat := if ql x < x.length then (if textF (bs (x.take (ql x))) = 0 then (0, ⟨3, bs (x.take (ql x)), 0⟩, ql x + 2) else (textF (bs (x.take (ql x))), tok0, 0)) else (5, tok0, 0)
theorem cut_any (s : ByteArray) (w : World) (hs : s.size ≤ 1000) (hm : MaxL w) :
 Calls Tryz.prog 58 #[.string s, .string ⟨#[34]⟩] w fun e w' => e = .returned (.tuple #[.string (bs (Lib.cut s.data.toList [34]).1), .string (bs (Lib.cut s.data.toList [34]).2.1), .bool (Lib.cut s.data.toList [34]).2.2]) ∧ ∃ n, w' = w.drewN n := by
 obtain ⟨m, hm⟩ := hm
 exact Tryz.strings_Cut s ⟨#[34]⟩ m w (by omega) hm
theorem cut_yes (s : ByteArray) (w : World) (hs : s.size ≤ 1000) (hm : MaxL w) (x : List UInt8) (hx : s.data.toList = x) (h : ql x < x.length) :
 Calls Tryz.prog 58 #[.string s, .string ⟨#[34]⟩] w fun e w' => (∃ v2, e = .returned (.tuple #[.string (bs (x.take (ql x))), .string v2, .bool true])) ∧ ∃ n, w' = w.drewN n := by
 have := cut_any s w hs hm
 rw [hx, ql_cut, if_pos h] at this
 exact this.mono fun e w' ⟨h1, h2⟩ => ⟨⟨_, h1⟩, h2⟩
theorem cut_no (s : ByteArray) (w : World) (hs : s.size ≤ 1000) (hm : MaxL w) (x : List UInt8) (hx : s.data.toList = x) (h : ¬ ql x < x.length) :
 Calls Tryz.prog 58 #[.string s, .string ⟨#[34]⟩] w fun e w' => (∃ v1 v2, e = .returned (.tuple #[.string v1, .string v2, .bool false])) ∧ ∃ n, w' = w.drewN n := by
 have := cut_any s w hs hm
 rw [hx, ql_cut, if_neg h] at this
 exact this.mono fun e w' ⟨h1, h2⟩ => ⟨⟨_, _, h1⟩, h2⟩
set_option maxHeartbeats 1600000 in
theorem quoted_any (s : ByteArray) (w : World) (hs : s.size ≤ 1000) (h0 : 1 ≤ s.size) (hT : Tabs w) (hm : MaxL w) :
 Calls Tryz.prog 32 #[.string s] w fun e w' => e = .returned (resV (quoR (s.data.toList.drop 1))) ∧ Below w.heap.size w w' := by
 have HF : Hid (quoR (s.data.toList.drop 1) = if ql (s.data.toList.drop 1) < (s.data.toList.drop 1).length then (if textF (bs ((s.data.toList.drop 1).take (ql (s.data.toList.drop 1)))) = 0 then (0, ⟨3, bs ((s.data.toList.drop 1).take (ql (s.data.toList.drop 1))), 0⟩, ql (s.data.toList.drop 1) + 2) else (textF (bs ((s.data.toList.drop 1).take (ql (s.data.toList.drop 1)))), tok0, 0)) else (5, tok0, 0)) := rfl
 have hxl : (s.data.toList.drop 1).length ≤ 1000 := by rw [List.length_drop]; show s.size - 1 ≤ 1000; omega
 have hxd : (s.extract 1 s.size).data.toList = s.data.toList.drop 1 := ext_drop s 1
 have hxs : (s.extract 1 s.size).size ≤ 1000 := by simp; omega
 generalize quoR (s.data.toList.drop 1) = F at HF
 generalize s.data.toList.drop 1 = x at *
 by_cases hq : ql x < x.length
 · have CU : Hid (∀ o, Calls Tryz.prog 58 #[.string (s.extract 1 s.size), .string ⟨#[34]⟩] (w.alloc o) fun e w' => (∃ v2, e = .returned (.tuple #[.string (bs (x.take (ql x))), .string v2, .bool true])) ∧ ∃ n, w' = (w.alloc o).drewN n) :=
    fun o => cut_yes _ _ hxs (hm.below ((Below.refl _ _).alloc (Nat.le_refl _) _)) x hxd hq
   have HG : Hid (F = if textF (bs (x.take (ql x))) = 0 then (0, ⟨3, bs (x.take (ql x)), 0⟩, ql x + 2) else (textF (bs (x.take (ql x))), tok0, 0)) := HF.out.trans (if_pos hq)
   have hTs : (bs (x.take (ql x))).size = ql x := by rw [bs_size, List.length_take]; omega
   have hQ : ql x ≤ 1000 := by omega
   clear HF hxd hxs hq
   generalize ql x = Q at *
   generalize bs (x.take Q) = T at *
   have CT : Hid (∀ o n, Calls Tryz.prog 59 #[.string T] ((w.alloc o).drewN n) fun e w' => e = .returned (.int .i64 (textF T)) ∧ Below ((w.alloc o).drewN n).heap.size ((w.alloc o).drewN n) w') :=
    fun o n => checkText_any T _ (by unfold maxLen; omega) (Utf8Tabs_below hT (below_drawnT ((Below.refl _ _).alloc (Nat.le_refl _) _) n))
   have CC : Hid (∀ W, Calls Tryz.prog 57 #[.string T] W fun e w' => e = .returned (.string T) ∧ Below W.heap.size W w') := fun W => clone_any T W (by omega)
   clear hT hm
   generalize textF T = E at *
   by_cases hE : E = 0
   · subst hE
     have HR : Hid (F = (0, ⟨3, T, 0⟩, Q + 2)) := HG.out
     clear HG
     go_enter Tryz.func32, Tryz.ntmps32
     go_wp2_with (first
      | (go_at_call 58; refine (CU.out _).mono ?_; rintro e w1 ⟨⟨v2, rfl⟩, n1, rfl⟩)
      | (go_at_call 59; refine (CT.out _ _).mono ?_; rintro e w1 ⟨rfl, hb1⟩; have HB1 : Hid (Below w.heap.size w w1) := (below_drawnT ((Below.refl _ _).alloc (Nat.le_refl _) _) _).trans (hb1.mono (by simp)); have hz1 : w.heap.size < w1.heap.size := (by have := hb1.size; simp at this; omega); obtain ⟨hc1, hf1⟩ := bcell hb1; clear hb1)
      | (go_at_call 57; refine (CC.out _).mono ?_; rintro e w2 ⟨rfl, hb2⟩; have HB2 : Hid (Below w.heap.size w w2) := HB1.out.trans (hb2.mono (by omega)); have hz2 : w.heap.size < w2.heap.size := (by have := hb2.size; omega); obtain ⟨hc2, hf2⟩ := bcell hb2; clear hb2))
     exact bodyPost_ret (v := .tuple #[.agg #[.int .i64 3, .string T, .int .i64 0], .int .i64 ((Q : Int) + 2), .int .i64 0]) (by simp [results, Tryz.results32, go_sem, hc2, hz1, hc1]) rfl ⟨by rw [HR.out]; simp [resV, tokV], ((HB2.out.setCell (by simp) _).setCell (by simp) _).setCell (by simp) _⟩
   · have HR : Hid (F = (E, tok0, 0)) := HG.out.trans (if_neg hE)
     have hE' : (E == 0) = false := by simpa using hE
     clear HG hE
     go_enter Tryz.func32, Tryz.ntmps32
     go_wp2_with (first
      | (go_at_call 58; refine (CU.out _).mono ?_; rintro e w1 ⟨⟨v2, rfl⟩, n1, rfl⟩)
      | (go_at_call 59; refine (CT.out _ _).mono ?_; rintro e w1 ⟨rfl, hb1⟩; have HB1 : Hid (Below w.heap.size w w1) := (below_drawnT ((Below.refl _ _).alloc (Nat.le_refl _) _) _).trans (hb1.mono (by simp)); have hz1 : w.heap.size < w1.heap.size := (by have := hb1.size; simp at this; omega); obtain ⟨hc1, hf1⟩ := bcell hb1; clear hb1))
     exact bodyPost_ret (v := .tuple #[.agg #[.int .i64 0, .string ⟨#[]⟩, .int .i64 0], .int .i64 0, .int .i64 E]) (by simp [results, Tryz.results32, go_sem, hc1]) rfl ⟨by rw [HR.out]; simp [resV, tokV, tok0], ((HB1.out.setCell (by simp) _).setCell (by simp) _).setCell (by simp) _⟩
 · have CU : Hid (∀ o, Calls Tryz.prog 58 #[.string (s.extract 1 s.size), .string ⟨#[34]⟩] (w.alloc o) fun e w' => (∃ v1 v2, e = .returned (.tuple #[.string v1, .string v2, .bool false])) ∧ ∃ n, w' = (w.alloc o).drewN n) :=
    fun o => cut_no _ _ hxs (hm.below ((Below.refl _ _).alloc (Nat.le_refl _) _)) x hxd hq
   have HR : Hid (F = (5, tok0, 0)) := HF.out.trans (if_neg hq)
   clear HF hxd hxs hq hT hm
   go_enter Tryz.func32, Tryz.ntmps32
   go_wp2_with (first
    | (go_at_call 58; refine (CU.out _).mono ?_; rintro e w1 ⟨⟨v1, v2, rfl⟩, n1, rfl⟩))
   exact bodyPost_ret (v := .tuple #[.agg #[.int .i64 0, .string ⟨#[]⟩, .int .i64 0], .int .i64 0, .int .i64 5]) (by simp [results, Tryz.results32, go_sem]) rfl ⟨by rw [HR.out]; simp [resV, tokV, tok0], by first | exact below_drawnT ((Below.refl _ _).alloc (Nat.le_refl _) _) _ | exact (((below_drawnT ((Below.refl _ _).alloc (Nat.le_refl _) _) _).setCell (by simp) _).setCell (by simp) _).setCell (by simp) _⟩
end Go.Proofs.YtbnlekhjgkojlaaGreatDoor
