/-
  CONTRACT: the first token of a text (read.firstToken).
-/
import Derived.Test.YteapocgpenokfaaGreatDoorTcCode
set_option linter.unusedVariables false
namespace Go.Proofs.YteapocgpenokfaaGreatDoor
set_option maxRecDepth 100000
open Go.RowKit

theorem tk_word {l : List UInt8} (h : lett (bAt l 0) = true) (hl : 0 < l.length) : tk l = nameR 1 (l.drop 0) 0 := by
  have := wl_pos h hl
  unfold tk nameR
  rw [if_pos h, List.drop_zero, Nat.zero_add]
  by_cases h1 : wl l true ≤ 20
  · rw [if_pos h1, if_pos ⟨this, h1⟩]
  · rw [if_neg h1, if_neg (fun h => h1 h.2)]
theorem lett_no {c : Int} (h : c = 36 ∨ c = 34 ∨ dgt c = true) : lett c = false := by
  rw [Bool.eq_false_iff]
  intro h'
  have h2 := of_decide_eq_true h'
  rcases h with h | h | h
  · omega
  · omega
  · have := dgt_iff.1 h; omega
theorem tk_var {l : List UInt8} (h : bAt l 0 = 36) : tk l = nameR 4 (l.drop 1) 1 := by
  unfold tk nameR
  rw [if_neg (by rw [lett_no (.inl h)]; decide), if_pos h]
theorem tk_num {l : List UInt8} (h : dgt (bAt l 0) = true) : tk l = numR l := by
  unfold tk numR
  rw [if_neg (by rw [lett_no (.inr (.inr h))]; decide), if_neg (by have := dgt_iff.1 h; omega), if_pos h]
theorem dgt_no {c : Int} (h : c = 34 ∨ c = 36) : dgt c = false := by
  rw [Bool.eq_false_iff]
  intro h'
  have := dgt_iff.1 h'
  omega
theorem tk_quo {l : List UInt8} (h : bAt l 0 = 34) : tk l = quoR (l.drop 1) := by
  unfold tk quoR
  rw [if_neg (by rw [lett_no (.inr (.inl h))]; decide), if_neg (by omega), if_neg (by rw [dgt_no (.inl h)]; decide), if_pos h]
theorem tk_mark {l : List UInt8} (h1 : lett (bAt l 0) = false) (h2 : ¬ bAt l 0 = 36) (h3 : dgt (bAt l 0) = false) (h4 : ¬ bAt l 0 = 34) : tk l = if fm l = [] then (4, tok0, 0) else (0, ⟨5, bs (fm l), 0⟩, (fm l).length) := by
  unfold tk
  rw [if_neg (by rw [h1]; decide), if_neg h2, if_neg (by rw [h3]; decide), if_neg h4]

set_option maxHeartbeats 1600000 in
theorem firstToken_any (s : ByteArray) (w : World) (hs : s.size ≤ 1000) (h0 : 1 ≤ s.size) (hT : Tabs w) (hm : MaxL w) (hM : MarkTab w) (hg : 0 < w.heap.size) :
    Calls Tryz.prog 9 #[.string s] w fun e w' => e = .returned (resV (tk s.data.toList)) ∧ Below w.heap.size w w' := by
  have h0' : 0 < s.size := h0
  have hbe : bAt s.data.toList 0 = (s[0].toNat : Int) := by rw [← byteAt_bAt, byteAt_eq s 0 h0']
  have hBel : ∀ o, Below w.heap.size w (w.alloc o) := fun o => (Below.refl _ _).alloc (Nat.le_refl _) o
  by_cases c1 : lett (s[0].toNat : Int) = true
  · have HR : Hid (tk s.data.toList = nameR 1 (s.data.toList.drop 0) 0) := tk_word (by rw [hbe]; exact c1) h0'
    have CN : Hid (∀ o, Calls Tryz.prog 21 #[.int .i64 1, .string s, .int .i64 0] (w.alloc o) fun e w' => e = .returned (resV (nameR 1 (s.data.toList.drop 0) 0)) ∧ Below (w.alloc o).heap.size (w.alloc o) w') := fun o => name_any 1 s 0 _ hs (Nat.zero_le _)
    generalize nameR 1 (s.data.toList.drop 0) 0 = r at *
    obtain ⟨E, ⟨K, S, N⟩, Z⟩ := r
    simp only [resV, tokV] at CN
    clear hT hm hM hbe hBel
    go_enter Tryz.func9, Tryz.ntmps9
    go_wp2_with (first
      | (go_at_call 20; refine (isLetter_any _ _).mono ?_; rintro e w' ⟨rfl, rfl⟩)
      | (go_at_call 21; refine (CN.out _).mono ?_; rintro e w1 ⟨rfl, hb1⟩; have HB1 : Hid (Below w.heap.size w w1) := ((Below.refl _ _).alloc (Nat.le_refl _) _).trans (hb1.mono (by simp)); obtain ⟨hc1, hf1⟩ := bcell hb1; clear hb1))
    exact bodyPost_ret (v := .tuple #[.agg #[.int .i64 K, .string S, .int .i64 N], .int .i64 Z, .int .i64 E]) (by simp [results, Tryz.results9, go_sem, hc1]) rfl ⟨by rw [HR.out]; rfl, ((HB1.out.setCell (by simp) _).setCell (by simp) _).setCell (by simp) _⟩
  have c1' : lett (s[0].toNat : Int) = false := by simpa using c1
  clear c1
  by_cases c2 : (s[0].toNat : Int) = 36
  · have HR : Hid (tk s.data.toList = nameR 4 (s.data.toList.drop 1) 1) := tk_var (by rw [hbe]; exact c2)
    have CN : Hid (∀ o, Calls Tryz.prog 21 #[.int .i64 4, .string s, .int .i64 1] (w.alloc o) fun e w' => e = .returned (resV (nameR 4 (s.data.toList.drop 1) 1)) ∧ Below (w.alloc o).heap.size (w.alloc o) w') := fun o => name_any 4 s 1 _ hs h0
    generalize nameR 4 (s.data.toList.drop 1) 1 = r at *
    obtain ⟨E, ⟨K, S, N⟩, Z⟩ := r
    simp only [resV, tokV] at CN
    have c2' : ((s[0].toNat : Int) == 36) = true := by simpa using c2
    clear hT hm hM hbe hBel c2
    go_enter Tryz.func9, Tryz.ntmps9
    go_wp2_with (first
      | (go_at_call 20; refine (isLetter_any _ _).mono ?_; rintro e w' ⟨rfl, rfl⟩)
      | (go_at_call 21; refine (CN.out _).mono ?_; rintro e w1 ⟨rfl, hb1⟩; have HB1 : Hid (Below w.heap.size w w1) := ((Below.refl _ _).alloc (Nat.le_refl _) _).trans (hb1.mono (by simp)); obtain ⟨hc1, hf1⟩ := bcell hb1; clear hb1))
    exact bodyPost_ret (v := .tuple #[.agg #[.int .i64 K, .string S, .int .i64 N], .int .i64 Z, .int .i64 E]) (by simp [results, Tryz.results9, go_sem, hc1]) rfl ⟨by rw [HR.out]; rfl, ((HB1.out.setCell (by simp) _).setCell (by simp) _).setCell (by simp) _⟩
  have c2' : ((s[0].toNat : Int) == 36) = false := by simpa using c2
  by_cases c3 : dgt (s[0].toNat : Int) = true
  · have HR : Hid (tk s.data.toList = numR s.data.toList) := tk_num (by rw [hbe]; exact c3)
    have CN : Hid (∀ o, Calls Tryz.prog 23 #[.string s] (w.alloc o) fun e w' => e = .returned (resV (numR s.data.toList)) ∧ Below (w.alloc o).heap.size (w.alloc o) w') := fun o => number_any s _ hs
    generalize numR s.data.toList = r at *
    obtain ⟨E, ⟨K, S, N⟩, Z⟩ := r
    simp only [resV, tokV] at CN
    clear hT hm hM hbe hBel c2
    go_enter Tryz.func9, Tryz.ntmps9
    go_wp2_with (first
      | (go_at_call 20; refine (isLetter_any _ _).mono ?_; rintro e w' ⟨rfl, rfl⟩)
      | (go_at_call 22; refine (isDigit_any _ _).mono ?_; rintro e w' ⟨rfl, rfl⟩)
      | (go_at_call 23; refine (CN.out _).mono ?_; rintro e w1 ⟨rfl, hb1⟩; have HB1 : Hid (Below w.heap.size w w1) := ((Below.refl _ _).alloc (Nat.le_refl _) _).trans (hb1.mono (by simp)); obtain ⟨hc1, hf1⟩ := bcell hb1; clear hb1))
    exact bodyPost_ret (v := .tuple #[.agg #[.int .i64 K, .string S, .int .i64 N], .int .i64 Z, .int .i64 E]) (by simp [results, Tryz.results9, go_sem, hc1]) rfl ⟨by rw [HR.out]; rfl, ((HB1.out.setCell (by simp) _).setCell (by simp) _).setCell (by simp) _⟩
  have c3' : dgt (s[0].toNat : Int) = false := by simpa using c3
  clear c3
  by_cases c4 : (s[0].toNat : Int) = 34
  · have HR : Hid (tk s.data.toList = quoR (s.data.toList.drop 1)) := tk_quo (by rw [hbe]; exact c4)
    have CN : Hid (∀ o, Calls Tryz.prog 24 #[.string s] (w.alloc o) fun e w' => e = .returned (resV (quoR (s.data.toList.drop 1))) ∧ Below (w.alloc o).heap.size (w.alloc o) w') := fun o => quoted_any s _ hs h0 (Utf8Tabs_below hT (hBel o)) (hm.below (hBel o))
    generalize quoR (s.data.toList.drop 1) = r at *
    obtain ⟨E, ⟨K, S, N⟩, Z⟩ := r
    simp only [resV, tokV] at CN
    have c4' : ((s[0].toNat : Int) == 34) = true := by simpa using c4
    clear hT hm hM hbe hBel c2 c4
    go_enter Tryz.func9, Tryz.ntmps9
    go_wp2_with (first
      | (go_at_call 20; refine (isLetter_any _ _).mono ?_; rintro e w' ⟨rfl, rfl⟩)
      | (go_at_call 22; refine (isDigit_any _ _).mono ?_; rintro e w' ⟨rfl, rfl⟩)
      | (go_at_call 24; refine (CN.out _).mono ?_; rintro e w1 ⟨rfl, hb1⟩; have HB1 : Hid (Below w.heap.size w w1) := ((Below.refl _ _).alloc (Nat.le_refl _) _).trans (hb1.mono (by simp)); obtain ⟨hc1, hf1⟩ := bcell hb1; clear hb1))
    exact bodyPost_ret (v := .tuple #[.agg #[.int .i64 K, .string S, .int .i64 N], .int .i64 Z, .int .i64 E]) (by simp [results, Tryz.results9, go_sem, hc1]) rfl ⟨by rw [HR.out]; rfl, ((HB1.out.setCell (by simp) _).setCell (by simp) _).setCell (by simp) _⟩
  have c4' : ((s[0].toNat : Int) == 34) = false := by simpa using c4
  have HF : Hid (tk s.data.toList = if fm s.data.toList = [] then (4, tok0, 0) else (0, ⟨5, bs (fm s.data.toList), 0⟩, (fm s.data.toList).length)) := tk_mark (by rw [hbe]; exact c1') (by rw [hbe]; exact c2) (by rw [hbe]; exact c3') (by rw [hbe]; exact c4)
  have CN : Hid (∀ o, Calls Tryz.prog 25 #[.string s] (w.alloc o) fun e w' => e = .returned (.string (bs (fm s.data.toList))) ∧ w' = w.alloc o) := fun o => firstMark_any s _ (hM.below (hBel o) hg)
  have hsz : (bs (fm s.data.toList)).size = (fm s.data.toList).length := bs_size _
  have hln : (fm s.data.toList).length ≤ 1000 := by
    by_cases hf : fm s.data.toList = []
    · rw [hf]; simp
    · have := (fm_len hf).2
      have e : s.data.toList.length = s.size := rfl
      omega
  generalize tk s.data.toList = F at HF
  clear hT hm hM hbe hBel c2 c4
  by_cases hf : fm s.data.toList = []
  · have HR : Hid (F = (4, tok0, 0)) := HF.out.trans (if_pos hf)
    have he : (bs (fm s.data.toList)).toList.isEmpty = true := isEmpty_yes (by rw [hsz, hf]; rfl)
    clear HF hf hsz hln
    generalize bs (fm s.data.toList) = T at *
    go_enter Tryz.func9, Tryz.ntmps9
    go_wp2_with (first
      | (go_at_call 20; refine (isLetter_any _ _).mono ?_; rintro e w' ⟨rfl, rfl⟩)
      | (go_at_call 22; refine (isDigit_any _ _).mono ?_; rintro e w' ⟨rfl, rfl⟩)
      | (go_at_call 25; refine (CN.out _).mono ?_; rintro e w' ⟨rfl, rfl⟩))
    exact bodyPost_ret (v := .tuple #[.agg #[.int .i64 0, .string ⟨#[]⟩, .int .i64 0], .int .i64 0, .int .i64 4]) (by simp [results, Tryz.results9, go_sem]) rfl ⟨by rw [HR.out]; simp [resV, tokV, tok0], by first | exact (Below.refl _ _).alloc (Nat.le_refl _) _ | exact ((((Below.refl _ _).alloc (Nat.le_refl _) _).setCell (by simp) _).setCell (by simp) _).setCell (by simp) _⟩
  · have HR : Hid (F = (0, ⟨5, bs (fm s.data.toList), 0⟩, (bs (fm s.data.toList)).size)) := HF.out.trans ((if_neg hf).trans (by rw [hsz]))
    have he : (bs (fm s.data.toList)).toList.isEmpty = false := isEmpty_no (by rw [hsz]; intro e; exact hf (List.eq_nil_of_length_eq_zero e))
    have hT' : (bs (fm s.data.toList)).size ≤ 1000 := by omega
    clear HF hf hsz hln
    generalize bs (fm s.data.toList) = T at *
    go_enter Tryz.func9, Tryz.ntmps9
    go_wp2_with (first
      | (go_at_call 20; refine (isLetter_any _ _).mono ?_; rintro e w' ⟨rfl, rfl⟩)
      | (go_at_call 22; refine (isDigit_any _ _).mono ?_; rintro e w' ⟨rfl, rfl⟩)
      | (go_at_call 25; refine (CN.out _).mono ?_; rintro e w' ⟨rfl, rfl⟩))
    exact bodyPost_ret (v := .tuple #[.agg #[.int .i64 5, .string T, .int .i64 0], .int .i64 T.size, .int .i64 0]) (by simp [results, Tryz.results9, go_sem]) rfl ⟨by rw [HR.out]; simp [resV, tokV], by first | exact (Below.refl _ _).alloc (Nat.le_refl _) _ | exact ((((Below.refl _ _).alloc (Nat.le_refl _) _).setCell (by simp) _).setCell (by simp) _).setCell (by simp) _⟩
end Go.Proofs.YteapocgpenokfaaGreatDoor
