/-
  CONTRACT of store.fitsPlace: has a node the size, the parent and the level that its place asks for?
-/
import Derived.Test.YtnfljohddpadhaaDoorNdUp
import Derived.Deep.QuietTactic
import Derived.BigQuiet
set_option linter.unusedVariables false
namespace Go.Proofs.YtnfljohddpadhaaDoor
open Go.RowKit

set_option maxHeartbeats 800000 in
theorem place_size (b off n cap i : Nat) (E : Nat → Nd) (w : World) (hn : n ≤ 100000) (hcap : n ≤ cap) (hi : i < n) (hE : NdsAt w b off n E) (h : ¬ (0 ≤ (E i).size ∧ (E i).size ≤ (n : Int) - 1 - i)) :
    Calls Tryd.prog 22 #[.slice (some ⟨b, off, none⟩) n cap, .int .i64 i] w fun e w' => e = .returned (.bool (placeB E n i)) ∧ Below w.heap.size w w' := by
  have HF : Hid (placeB E n i = false) := fit_size h
  obtain ⟨e1, e2, e3, e4, e5, e6⟩ := hE i hi
  clear hE
  generalize hs : (E i).size = s at *
  clear hs
  by_cases h1 : s < 0
  · clear h
    go_enter Tryd.func22, Tryd.ntmps22
    go_wp2
    go_ret
    exact ⟨ret_bool HF.out.symm, (Below.refl _ _).alloc (Nat.le_refl _) _⟩
  · have h2 : (n : Int) - 1 - i < s := by omega
    clear h
    go_enter Tryd.func22, Tryd.ntmps22
    go_wp2
    go_ret
    exact ⟨ret_bool HF.out.symm, (Below.refl _ _).alloc (Nat.le_refl _) _⟩

set_option maxHeartbeats 800000 in
theorem place_par (b off n cap i : Nat) (E : Nat → Nd) (w : World) (hn : n ≤ 100000) (hcap : n ≤ cap) (hi : i < n) (hb0 : b < w.heap.size) (hE : NdsAt w b off n E) (hf : fitTo E n i)
    (h1 : 0 ≤ (E i).size) (h2 : (E i).size ≤ (n : Int) - 1 - i) (h3 : ¬ (E i).parent = upI E i) :
    Calls Tryd.prog 22 #[.slice (some ⟨b, off, none⟩) n cap, .int .i64 i] w fun e w' => e = .returned (.bool (placeB E n i)) ∧ Below w.heap.size w w' := by
  have HF : Hid (placeB E n i = false) := fit_up h3
  have CA : Hid (∀ W, Below w.heap.size w W → Calls Tryd.prog 49 #[.slice (some ⟨b, off, none⟩) n cap, .int .i64 i] W fun e w' => e = .returned (.int .i64 (upI E i)) ∧ w' = W) :=
    fun W hW => around_any b off n cap i E W hn hcap hi (hE.below hW hb0) hf
  obtain ⟨e1, e2, e3, e4, e5, e6⟩ := hE i hi
  have hne : ((E i).parent != upI E i) = true := by simpa using h3
  clear hE hf h3
  go_enter Tryd.func22, Tryd.ntmps22
  go_wp2_with (first | (go_at_call 49; refine (CA.out _ ((Below.refl _ _).alloc (Nat.le_refl _) _)).mono ?_; rintro e w1 ⟨rfl, rfl⟩))
  go_ret
  exact ⟨ret_bool HF.out.symm, (Below.refl _ _).alloc (Nat.le_refl _) _⟩

set_option maxHeartbeats 800000 in
theorem place_root (b off n cap i : Nat) (E : Nat → Nd) (w : World) (hn : n ≤ 100000) (hcap : n ≤ cap) (hi : i < n) (hb0 : b < w.heap.size) (hE : NdsAt w b off n E) (hf : fitTo E n i)
    (h1 : 0 ≤ (E i).size) (h2 : (E i).size ≤ (n : Int) - 1 - i) (h3 : (E i).parent = upI E i) (hu : upW E i i = 0) :
    Calls Tryd.prog 22 #[.slice (some ⟨b, off, none⟩) n cap, .int .i64 i] w fun e w' => e = .returned (.bool (placeB E n i)) ∧ Below w.heap.size w w' := by
  have HF : Hid (placeB E n i = decide ((E i).level = 0)) := place_top h1 h2 h3 hu
  have h4 : upI E i = -1 := by unfold upI; rw [hu]; rfl
  have CA : Hid (∀ W, Below w.heap.size w W → Calls Tryd.prog 49 #[.slice (some ⟨b, off, none⟩) n cap, .int .i64 i] W fun e w' => e = .returned (.int .i64 (-1)) ∧ w' = W) :=
    fun W hW => h4 ▸ around_any b off n cap i E W hn hcap hi (hE.below hW hb0) hf
  obtain ⟨e1, e2, e3, e4, e5, e6⟩ := hE i hi
  rw [h3, h4] at e6
  clear hE hf h3 h4
  go_enter Tryd.func22, Tryd.ntmps22
  go_wp2_with (first | (go_at_call 49; refine (CA.out _ ((Below.refl _ _).alloc (Nat.le_refl _) _)).mono ?_; rintro e w1 ⟨rfl, rfl⟩))
  all_goals
    go_ret
    refine ⟨ret_bool ?_, (Below.refl _ _).alloc (Nat.le_refl _) _⟩
    rw [HF.out, Bool.eq_iff_iff]
    simp_all

set_option maxHeartbeats 800000 in
theorem place_deep (b off n cap i p : Nat) (E : Nat → Nd) (w : World) (hn : n ≤ 100000) (hcap : n ≤ cap) (hi : i < n) (hb0 : b < w.heap.size) (hE : NdsAt w b off n E) (hf : fitTo E n i)
    (h1 : 0 ≤ (E i).size) (h2 : (E i).size ≤ (n : Int) - 1 - i) (h3 : (E i).parent = upI E i) (hu : upW E i i = p + 1) :
    Calls Tryd.prog 22 #[.slice (some ⟨b, off, none⟩) n cap, .int .i64 i] w fun e w' => e = .returned (.bool (placeB E n i)) ∧ Below w.heap.size w w' := by
  have HF : Hid (placeB E n i = decide ((E i).level = (E p).level + 1 ∧ (i : Int) + (E i).size ≤ p + (E p).size ∧ (E i).kind ≠ 6 ∧ ((E i).kind = 2 → (E p).kind = 1 ∧ (i = p + 1 ∨ (E (i - 1)).kind = 2)))) := place_in h1 h2 h3 hu
  have h4 : upI E i = (p : Int) := by unfold upI; rw [hu]; omega
  have CA : Hid (∀ W, Below w.heap.size w W → Calls Tryd.prog 49 #[.slice (some ⟨b, off, none⟩) n cap, .int .i64 i] W fun e w' => e = .returned (.int .i64 (p : Int)) ∧ w' = W) :=
    fun W hW => h4 ▸ around_any b off n cap i E W hn hcap hi (hE.below hW hb0) hf
  have hpi : p < i := by have := upW_le E i i; omega
  obtain ⟨e1, e2, e3, e4, e5, e6⟩ := hE i hi
  obtain ⟨p1, p2, p3, p4, p5, p6⟩ := hE p (by omega)
  obtain ⟨q1, _, _, _, _, _⟩ := hE (i - 1) (by omega)
  have hlv := level_in hf p hpi
  obtain ⟨_, z1, z2, _⟩ := fit_parts (hf p hpi)
  rw [h3, h4] at e6
  clear hE hf h3 h4 hu
  generalize (E i).level = lx at *
  generalize (E p).level = lp at *
  generalize (E i).size = sx at *
  generalize (E p).size = sp at *
  have hpn : p < n := by omega
  by_cases c1 : lx = lp + 1
  · by_cases c2 : (p : Int) + sp < i + sx
    · have HR : Hid (placeB E n i = false) := by
        have e : placeB E n i = false := by rw [HF.out]; exact decide_eq_false (fun h => by omega)
        exact e
      have c1' : (lx != lp + 1) = false := by simpa using c1
      clear HF c1
      go_enter Tryd.func22, Tryd.ntmps22
      go_wp2_with (first | (go_at_call 49; refine (CA.out _ ((Below.refl _ _).alloc (Nat.le_refl _) _)).mono ?_; rintro e w1 ⟨rfl, rfl⟩))
      go_quiet (fail)
      go_wp2
      go_ret
      exact ⟨ret_bool HR.out.symm, below_drewN ((Below.refl _ _).alloc (Nat.le_refl _) _) _⟩
    · have c1' : (lx != lp + 1) = false := by simpa using c1
      have c2' : ¬ (p : Int) + sp < i + sx := c2
      have HF2 : Hid (placeB E n i = decide ((E i).kind ≠ 6 ∧ ((E i).kind = 2 → (E p).kind = 1 ∧ (i = p + 1 ∨ (E (i - 1)).kind = 2)))) := by
        have e : placeB E n i = decide ((E i).kind ≠ 6 ∧ ((E i).kind = 2 → (E p).kind = 1 ∧ (i = p + 1 ∨ (E (i - 1)).kind = 2))) := by
          rw [HF.out]
          exact decide_eq_decide.2 ⟨fun h => h.2.2, fun h => ⟨c1, by omega, h⟩⟩
        exact e
      have hi1 : ((i : Int) - 1) = ((i - 1 : Nat) : Int) := by omega
      have hi2 : i - 1 < n := by omega
      clear HF c1 c2
      by_cases k6 : (E i).kind = 6
      · have HR : Hid (placeB E n i = false) := by
          have e : placeB E n i = false := by rw [HF2.out]; exact decide_eq_false (fun h => h.1 k6)
          exact e
        rw [k6] at e1
        clear HF2 k6
        go_enter Tryd.func22, Tryd.ntmps22
        go_wp2_with (first | (go_at_call 49; refine (CA.out _ ((Below.refl _ _).alloc (Nat.le_refl _) _)).mono ?_; rintro e w1 ⟨rfl, rfl⟩))
        go_quiet (fail)
        go_wp2
        go_ret
        exact ⟨ret_bool HR.out.symm, below_drewN ((Below.refl _ _).alloc (Nat.le_refl _) _) _⟩
      by_cases k2 : (E i).kind = 2
      · have HF3 : Hid (placeB E n i = decide ((E p).kind = 1 ∧ (i = p + 1 ∨ (E (i - 1)).kind = 2))) := by
          have e : placeB E n i = decide ((E p).kind = 1 ∧ (i = p + 1 ∨ (E (i - 1)).kind = 2)) := by
            rw [HF2.out]
            exact decide_eq_decide.2 ⟨fun h => h.2 k2, fun h => ⟨k6, fun _ => h⟩⟩
          exact e
        rw [k2] at e1
        clear HF2 k6 k2
        generalize (E p).kind = kp at *
        generalize (E (i - 1)).kind = kq at *
        cases a1 : (kp == 1)
        · have HR : Hid (placeB E n i = false) := by
            have e : placeB E n i = false := by rw [HF3.out]; exact decide_eq_false (fun h => by simp [h.1] at a1)
            exact e
          clear HF3
          go_enter Tryd.func22, Tryd.ntmps22
          go_wp2_with (first | (go_at_call 49; refine (CA.out _ ((Below.refl _ _).alloc (Nat.le_refl _) _)).mono ?_; rintro e w1 ⟨rfl, rfl⟩))
          go_quiet (fail)
          go_wp2
          go_ret
          exact ⟨ret_bool HR.out.symm, below_drewN ((Below.refl _ _).alloc (Nat.le_refl _) _) _⟩
        cases a2 : (((i - 1 : Nat) : Int) == (p : Int))
        · cases a3 : (kq == 2)
          · have HR : Hid (placeB E n i = false) := by
              have e : placeB E n i = false := by
                rw [HF3.out]
                refine decide_eq_false (fun h => ?_)
                rcases h.2 with h | h
                · have a4 : ¬ (((i - 1 : Nat) : Int) = (p : Int)) := by simpa using a2
                  omega
                · simp [h] at a3
              exact e
            clear HF3
            go_enter Tryd.func22, Tryd.ntmps22
            go_wp2_with (first | (go_at_call 49; refine (CA.out _ ((Below.refl _ _).alloc (Nat.le_refl _) _)).mono ?_; rintro e w1 ⟨rfl, rfl⟩))
            go_quiet (fail)
            go_wp2
            go_ret
            exact ⟨ret_bool HR.out.symm, below_drewN ((Below.refl _ _).alloc (Nat.le_refl _) _) _⟩
          · have HR : Hid (placeB E n i = true) := by
              have e : placeB E n i = true := by rw [HF3.out]; exact decide_eq_true ⟨eq_of_beq a1, .inr (eq_of_beq a3)⟩
              exact e
            clear HF3
            go_enter Tryd.func22, Tryd.ntmps22
            go_wp2_with (first | (go_at_call 49; refine (CA.out _ ((Below.refl _ _).alloc (Nat.le_refl _) _)).mono ?_; rintro e w1 ⟨rfl, rfl⟩))
            go_quiet (fail)
            go_wp2
            go_ret
            exact ⟨ret_bool HR.out.symm, below_drewN ((Below.refl _ _).alloc (Nat.le_refl _) _) _⟩
        · have HR : Hid (placeB E n i = true) := by
            have e : placeB E n i = true := by
              have a4 := eq_of_beq a2
              rw [HF3.out]; exact decide_eq_true ⟨eq_of_beq a1, .inl (by omega)⟩
            exact e
          clear HF3
          go_enter Tryd.func22, Tryd.ntmps22
          go_wp2_with (first | (go_at_call 49; refine (CA.out _ ((Below.refl _ _).alloc (Nat.le_refl _) _)).mono ?_; rintro e w1 ⟨rfl, rfl⟩))
          go_quiet (fail)
          go_wp2
          go_ret
          exact ⟨ret_bool HR.out.symm, below_drewN ((Below.refl _ _).alloc (Nat.le_refl _) _) _⟩
      · have HR : Hid (placeB E n i = true) := by
          have e : placeB E n i = true := by rw [HF2.out]; exact decide_eq_true ⟨k6, fun h => absurd h k2⟩
          exact e
        have k6' : ((E i).kind == 6) = false := by simpa using k6
        have k2' : ((E i).kind == 2) = false := by simpa using k2
        clear HF2 k6 k2
        go_enter Tryd.func22, Tryd.ntmps22
        go_wp2_with (first | (go_at_call 49; refine (CA.out _ ((Below.refl _ _).alloc (Nat.le_refl _) _)).mono ?_; rintro e w1 ⟨rfl, rfl⟩))
        go_quiet (fail)
        go_wp2
        go_ret
        exact ⟨ret_bool HR.out.symm, below_drewN ((Below.refl _ _).alloc (Nat.le_refl _) _) _⟩
  · have HR : Hid (placeB E n i = false) := by
      have e : placeB E n i = false := by rw [HF.out]; exact decide_eq_false (fun h => by omega)
      exact e
    have c1' : (lx != lp + 1) = true := by simpa using c1
    clear HF c1
    go_enter Tryd.func22, Tryd.ntmps22
    go_wp2_with (first | (go_at_call 49; refine (CA.out _ ((Below.refl _ _).alloc (Nat.le_refl _) _)).mono ?_; rintro e w1 ⟨rfl, rfl⟩))
    go_quiet (fail)
    go_wp2
    go_ret
    exact ⟨ret_bool HR.out.symm, below_drewN ((Below.refl _ _).alloc (Nat.le_refl _) _) _⟩

theorem fitsPlace_any (b off n cap i : Nat) (E : Nat → Nd) (w : World) (hn : n ≤ 100000) (hcap : n ≤ cap) (hi : i < n) (hb0 : b < w.heap.size) (hE : NdsAt w b off n E) (hf : fitTo E n i) :
    Calls Tryd.prog 22 #[.slice (some ⟨b, off, none⟩) n cap, .int .i64 i] w fun e w' => e = .returned (.bool (placeB E n i)) ∧ Below w.heap.size w w' := by
  by_cases h : 0 ≤ (E i).size ∧ (E i).size ≤ (n : Int) - 1 - i
  · by_cases h3 : (E i).parent = upI E i
    · cases hu : upW E i i with
      | zero => exact place_root b off n cap i E w hn hcap hi hb0 hE hf h.1 h.2 h3 hu
      | succ p => exact place_deep b off n cap i p E w hn hcap hi hb0 hE hf h.1 h.2 h3 hu
    · exact place_par b off n cap i E w hn hcap hi hb0 hE hf h.1 h.2 h3
  · exact place_size b off n cap i E w hn hcap hi hE h
end Go.Proofs.YtnfljohddpadhaaDoor
