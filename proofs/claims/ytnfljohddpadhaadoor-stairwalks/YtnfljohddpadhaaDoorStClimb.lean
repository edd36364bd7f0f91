/-
  CONTRACT of package axes: the way up.
-/
import Derived.Test.YtnfljohddpadhaaDoorStSmall2
import Derived.Deep.QuietTactic
import Derived.BigQuiet
import Derived.WalkLawsBesides
import Derived.Outline
set_option linter.unusedVariables false
namespace Go.Proofs.YtnfljohddpadhaaDoor
set_option maxRecDepth 100000
open Go.RowKit Go.WideShapes

theorem bk3 {w : World} {b : Nat} {x y z : Value} {T : TypeId} (h : w.heap[b]? = some (.cells #[x, y, z] T)) : w.cell? ⟨b, 0, none⟩ = some x ∧ w.cell? ⟨b, 1, none⟩ = some y ∧ w.cell? ⟨b, 2, none⟩ = some z ∧ b < w.heap.size :=
  ⟨by rw [Lib.cell_of_heap h]; rfl, by rw [Lib.cell_of_heap h]; rfl, by rw [Lib.cell_of_heap h]; rfl, (Array.getElem?_eq_some_iff.1 h).1⟩
theorem zero60 (w : World) : (zeroValue 60).run Tryd.prog w = .ok (.agg #[]) w := by kernel_rfl
theorem climb_none (la : Option Addr) (lb lo N lcap : Nat) (E : Nat → Nd) (ca : Option Addr) (K ccap M : Nat) (S : Nat → Prop) (w : World) (hS : Seen w M S) :
    Calls Tryd.prog 35 #[.agg #[.slice la N lcap, .slice ca K ccap, .map (some M)], .int .i64 (-1)] w fun e w' => e = .returned (.tuple #[]) ∧ Seen w' M S ∧ Kept (fun c => c = M) w w' := by
  have HS1 : Hid (Seen (w.alloc (.cells #[.slice la N lcap, .slice ca K ccap, .map (some M)] 39)) M S) := IMap.alloc hS _
  go_enter Tryd.func35, Tryd.ntmps35
  go_wp2
  go_loop [1] (fun v => v = .int .i64 (-1)) (fun v => 0)
  case atStart => exact rfl
  case round =>
    subst hrel
    go_wp2
    first | go_end0 | refine bodyPost_ret (results_none rfl _ _ _) rfl ?_
    exact ⟨rfl, HS1.out, Kept.alloc (Kept.refl _ _) _⟩
set_option maxHeartbeats 3200000 in
theorem climb_some (la : Option Addr) (lb lo N lcap : Nat) (E : Nat → Nd) (ca : Option Addr) (K ccap M : Nat) (n : Nat) (S : Nat → Prop) (w : World) (t : Tr E N) (hw : Wk w la lb lo N lcap E) (hn : n < N) (hS : Seen w M S) (hM : lb ≠ M) (hcl : ∀ i a, S i → An E a i → S a) :
    Calls Tryd.prog 35 #[.agg #[.slice la N lcap, .slice ca K ccap, .map (some M)], .int .i64 n] w fun e w' => e = .returned (.tuple #[]) ∧ Seen w' M (fun i => S i ∨ An E i n) ∧ Kept (fun c => c = M) w w' := by
  have hlt := hS.lt
  have HS1 : Hid (Seen (w.alloc (.cells #[.slice la N lcap, .slice ca K ccap, .map (some M)] 39)) M S) := IMap.alloc hS _
  have hW1 : Wk (w.alloc (.cells #[.slice la N lcap, .slice ca K ccap, .map (some M)] 39)) la lb lo N lcap E := hw.below ((Below.refl _ _).alloc (Nat.le_refl _) _)
  have HW1 := hidS hW1
  have CS : Hid (∀ (W : World) (m : Nat) (S' : Nat → Prop), m < N → Seen W M S' → Calls Tryd.prog 32 #[.agg #[.slice la N lcap, .slice ca K ccap, .map (some M)], .int .i64 m] W fun e w' => e = .returned (.tuple #[]) ∧ Seen w' M (fun i => S' i ∨ i = m) ∧ Kept (fun c => c = M) W w') := fun W m S' hm h => see_is la lb lo N lcap E ca K ccap M m S' W (by have := hw.n; omega) h
  obtain ⟨q1, q2, q3, q4, q5, q6⟩ := hw
  obtain rfl := q1 (by omega)
  have hlb := q5 (by omega)
  have HT := hidS t
  have HCL := hidS hcl
  unfold maxLen at q4
  clear q6 t q5 q1 hS hW1 hcl
  go_enter Tryd.func35, Tryd.ntmps35
  go_wp2
  go_loopw [1] (fun v wr => ∃ q : Nat, q ≤ n + 1 ∧ v = .int .i64 ((q : Int) - 1) ∧ (0 < q → An E (q - 1) n) ∧ Seen wr M (fun i => S i ∨ (An E i n ∧ q ≤ i)) ∧ Kept (fun c => c = M) (w.alloc (.cells #[.slice (some ⟨lb, lo, none⟩) N lcap, .slice ca K ccap, .map (some M)] 39)) wr) (fun v _ => (intOf v + 1).toNat)
  case atStart => exact ⟨n + 1, Nat.le_refl _, by go_num, fun _ => An.refl E n, Seen.congr HS1.out (fun i => ⟨.inl, fun h => h.elim id (fun k => absurd k.1.1 (by omega))⟩), Kept.refl _ _⟩
  case round =>
    obtain ⟨q, hq, rfl, hq2, hsn, hkp⟩ := hrel
    have HSN := hidS hsn
    have HKP := hidS hkp
    have hbx : wr.heap[w.heap.size]? = some (.cells #[.slice (some ⟨lb, lo, none⟩) N lcap, .slice ca K ccap, .map (some M)] 39) := (hkp.block w.heap.size (by simp) (by omega)).trans (heap_alloc_new _ _)
    obtain ⟨x0, x1, x2, x3⟩ := bk3 hbx
    have HBX := hidS hbx
    clear hsn hkp hbx
    cases q with
    | zero =>
      rw [show ((0 : Nat) : Int) - 1 = -1 from rfl]
      go_wp2
      first | go_end0 | refine bodyPost_ret (results_none rfl _ _ _) rfl ?_
      exact ⟨rfl, Seen.congr HSN.out (fun i => ⟨fun h => h.elim .inl (fun k => .inr k.1), fun h => h.elim .inl (fun k => .inr ⟨k, Nat.zero_le _⟩)⟩), (Kept.alloc (Kept.refl _ _) _).trans HKP.out⟩
    | succ m =>
      rw [show ((m + 1 : Nat) : Int) - 1 = (m : Int) by omega]
      have HAN : Hid (An E m n) := hq2 (by omega)
      have hmN : m < N := by have := HAN.out.1; omega
      have hlk := (IMap.look (t := 37) HSN.out (x := (m : Int)) ⟨by omega, by omega⟩ Tryd.underlying37 (zero60 wr)).2
      clear hq2
      by_cases hs : S m
      · have HF : Hid (∀ i, (S i ∨ (An E i n ∧ m + 1 ≤ i)) ↔ (S i ∨ An E i n)) := by
          intro i
          constructor
          · rintro (h | h)
            · exact .inl h
            · exact .inr h.1
          · rintro (h | h)
            · exact .inl h
            · by_cases e : m + 1 ≤ i
              · exact .inr ⟨h, e⟩
              · exact .inl (HCL.out m i hs (An.both h HAN.out (by omega)))
        rw [setV_yes (.inl hs)] at hlk
        simp only [Option.getD_some, Option.isSome_some] at hlk
        go_wp2_with fail
        first | go_end0 | refine bodyPost_ret (results_none rfl _ _ _) rfl ?_
        exact ⟨rfl, Seen.congr (Seen.keep HSN.out (Below.heap_alloc _ _ _ HSN.out.lt)) HF.out, ((Kept.alloc (Kept.refl _ _) _).trans HKP.out).alloc _⟩
      · have hno : ¬ (S m ∨ (An E m n ∧ m + 1 ≤ m)) := fun h => h.elim hs (fun k => by omega)
        rw [setV_no hno] at hlk
        simp only [Option.getD_none, Option.isSome_none] at hlk
        have CS1 := hidS (CS.out (wr.alloc (.cells #[] 60)) m _ hmN (Seen.keep HSN.out (Below.heap_alloc _ _ _ HSN.out.lt)))
        have HNO := hidS hno
        clear hs hno
        rcases HT.out.up m hmN with hp | ⟨p, hp, hp1, hp2⟩
        · have HP := hidS hp
          have HQ : Hid (∀ i, ((S i ∨ (An E i n ∧ m + 1 ≤ i)) ∨ i = m) ↔ (S i ∨ (An E i n ∧ 0 ≤ i))) := by
            intro i
            constructor
            · rintro ((h | h) | h)
              · exact .inl h
              · exact .inr ⟨h.1, Nat.zero_le _⟩
              · subst h; exact .inr ⟨HAN.out, Nat.zero_le _⟩
            · rintro (h | h)
              · exact .inl (.inl h)
              · by_cases e : m + 1 ≤ i
                · exact .inl (.inr ⟨h.1, e⟩)
                · by_cases e2 : i = m
                  · exact .inr e2
                  · obtain ⟨p, k1, _⟩ := An.parent HT.out hmN (An.both h.1 HAN.out (by omega)) e2
                    have := HP.out
                    omega
          clear hp
          go_wp2_with (go_at_call 32; refine CS1.out.mono ?_; rintro e w5 ⟨rfl, hs5, hk5⟩; have HS5 := hidS hs5; have HK5 : Hid (Kept (fun c => c = M) (w.alloc (.cells #[.slice (some ⟨lb, lo, none⟩) N lcap, .slice ca K ccap, .map (some M)] 39)) w5) := (HKP.out.alloc _).trans hk5; obtain ⟨y0, y1, y2, y3⟩ := bk3 ((HK5.out.block w.heap.size (by simp) (by omega)).trans (heap_alloc_new _ _)); obtain ⟨d0, d1, d2, d3, d4, d5⟩ := (HW1.out.keep HK5.out hM).at_ m hmN; rw [HP.out] at d5; clear hs5 hk5 CS1)
          go_roundw
          case rel => exact ⟨0, Nat.zero_le _, by go_num, fun h => absurd h (by decide), Seen.congr HS5.out HQ.out, HK5.out⟩
          case measure => simp [intOf] <;> omega
        · have HP := hidS hp
          have HPN : Hid (An E p n) := An.trans HT.out (by omega) ⟨by omega, hp2⟩ HAN.out
          have HQ : Hid (∀ i, ((S i ∨ (An E i n ∧ m + 1 ≤ i)) ∨ i = m) ↔ (S i ∨ (An E i n ∧ p + 1 ≤ i))) := by
            intro i
            constructor
            · rintro ((h | h) | h)
              · exact .inl h
              · exact .inr ⟨h.1, by omega⟩
              · subst h; exact .inr ⟨HAN.out, by omega⟩
            · rintro (h | h)
              · exact .inl (.inl h)
              · by_cases e : m + 1 ≤ i
                · exact .inl (.inr ⟨h.1, e⟩)
                · by_cases e2 : i = m
                  · exact .inr e2
                  · obtain ⟨p', k1, _, k2, _⟩ := An.parent HT.out hmN (An.both h.1 HAN.out (by omega)) e2
                    have := HP.out
                    have := k2.1
                    omega
          clear hp
          go_wp2_with (go_at_call 32; refine CS1.out.mono ?_; rintro e w5 ⟨rfl, hs5, hk5⟩; have HS5 := hidS hs5; have HK5 : Hid (Kept (fun c => c = M) (w.alloc (.cells #[.slice (some ⟨lb, lo, none⟩) N lcap, .slice ca K ccap, .map (some M)] 39)) w5) := (HKP.out.alloc _).trans hk5; obtain ⟨y0, y1, y2, y3⟩ := bk3 ((HK5.out.block w.heap.size (by simp) (by omega)).trans (heap_alloc_new _ _)); obtain ⟨d0, d1, d2, d3, d4, d5⟩ := (HW1.out.keep HK5.out hM).at_ m hmN; rw [HP.out] at d5; clear hs5 hk5 CS1)
          go_roundw
          case rel => exact ⟨p + 1, by omega, by go_num, fun _ => HPN.out, Seen.congr HS5.out HQ.out, HK5.out⟩
          case measure => simp [intOf] <;> omega
end Go.Proofs.YtnfljohddpadhaaDoor
