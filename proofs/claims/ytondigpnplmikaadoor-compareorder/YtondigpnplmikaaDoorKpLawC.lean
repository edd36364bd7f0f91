/-
  THE LAW CompareOrder of package pleacherkeep.
-/
import Derived.Test.YtondigpnplmikaaDoorKpCmp
import Derived.Deep.RegionHeld3
set_option linter.unusedVariables false
namespace Go.Proofs.YtondigpnplmikaaDoor
set_option maxRecDepth 100000
open Go.RowKit Go.WideShapes

theorem it_ne {x y : It} (h : x ≠ y) : (x.kind == y.kind) = false ∨ ((x.kind == y.kind) = true ∧ (x.n == y.n) = false) ∨ ((x.kind == y.kind) = true ∧ (x.n == y.n) = true ∧ (x.s.toList == y.s.toList) = false) := by
  by_cases h1 : x.kind = y.kind
  · by_cases h2 : x.n = y.n
    · refine .inr (.inr ⟨by simpa using h1, by simpa using h2, ?_⟩)
      cases e : (x.s.toList == y.s.toList) with
      | false => rfl
      | true => exact absurd (it_ext h1 h2 (beq_iff_eq.1 e)) h
    · exact .inr (.inl ⟨by simpa using h1, by simpa using h2⟩)
  · exact .inl (by simpa using h1)
set_option maxHeartbeats 12800000 in
theorem lawCompare (v : Value) (n : Nat) (X : Nat → Rw) (i j k : Int) (w : World) (hv : RawsIs w v n X) (hf : RawsFine n X) (hi : i64 i) (hj : i64 j) (hk : i64 k) (hT : Tabs w) :
    Calls Tryd.prog 3 #[v, .int .i64 i, .int .i64 j, .int .i64 k] w fun e w' => e = .returned (.bool true) ∧ Below w.heap.size w w' := by
  have CR : Hid (∀ a b, Calls Tryd.prog 5 #[v, .string a, .string b] w fun e w' => ∃ ca cc ra rc, e = .returned (.agg #[.slice ca 2 cc, .slice ra (rawN n) rc]) ∧ RowsTwo w' (w.heap.size + 2) (w.heap.size + 2) (.slice ra (rawN n) rc) (rawN n) (cmpR X (rawN n)) ∧ Below w.heap.size w w' ∧ w.heap.size + 2 < w'.heap.size) := fun a b => by
    refine (relation_is v n X a b w hv hf).mono ?_
    rintro e w' ⟨c, q, rfl, h1, h2, h3, h4⟩
    obtain ⟨ca, cc, rfl, _⟩ := h1
    obtain ⟨ra, rc, rfl⟩ := h2.shape
    exact ⟨ca, cc, ra, rc, rfl, h2.congr (fun i hi => if_pos hi), h3, h4⟩
  have HM : Hid (rawN n ≤ 12) := (by unfold rawN; split <;> omega : rawN n ≤ 12)
  have hm12 := HM.out
  have CP : Hid (∀ W (x : Int), x = i ∨ x = j ∨ x = k → Calls Tryd.prog 6 #[.int .i64 x, .int .i64 ((rawN n : Int) + 1)] W fun e w' => ∃ q : Nat, q < rawN n + 1 ∧ e = .returned (.int .i64 q) ∧ W = w') := fun W x hx => by
    have hx' : i64 x := by rcases hx with rfl | rfl | rfl <;> assumption
    refine (picked_is x ((rawN n : Int) + 1) W hx' (by omega) (by omega)).mono ?_
    rintro e w' ⟨rfl, rfl⟩
    have hr := pk_range (n := x) (many := (rawN n : Int) + 1) (by omega)
    exact ⟨(pk x ((rawN n : Int) + 1)).toNat, by omega, by rw [Int.toNat_of_nonneg hr.1], rfl⟩
  have CD : Hid (∀ W (x : Int), x = i ∨ x = j ∨ x = k → Calls Tryd.prog 6 #[.int .i64 x, .int .i64 ((rawN n : Int) + 1)] W fun e w' => e = .returned (.int .i64 (pk x ((rawN n : Int) + 1))) ∧ w' = W) := fun W x hx => picked_is x ((rawN n : Int) + 1) W (by rcases hx with rfl | rfl | rfl <;> assumption) (by omega) (by omega)
  have CC : Hid (∀ W (x y : It), Calls Tryd.prog 7 #[.agg #[.int .i64 x.kind, .int .i64 x.n, .string x.s], .agg #[.int .i64 y.kind, .int .i64 y.n, .string y.s]] W fun e w' => e = .returned (.int .i64 (cmpT x y)) ∧ Below W.heap.size W w') := fun W x y => compare_any _ _ _ _ _ _ W
  have CI : Hid (∀ W (x : It), Below w.heap.size w W → mayI x = true → x.s.size ≤ 1 → Calls Tryd.prog 8 #[.agg #[.int .i64 x.kind, .int .i64 x.n, .string x.s]] W fun e w' => e = .returned (.int .i64 0) ∧ Below W.heap.size W w') := fun W x hW hx hs => by
    refine (checkItem_any x.kind x.n x.s W (by unfold maxLen; omega) (Utf8Tabs_below hT hW)).mono ?_
    rintro e w' ⟨rfl, h⟩
    exact ⟨by rw [show itemF ⟨x.kind, x.n, x.s⟩ = 0 from if_pos hx], h⟩
  obtain ⟨va, vcap, rfl, _⟩ := hv
  clear hf hT hi hj hk
  go_enter Tryd.func3, Tryd.ntmps3
  go_upto_region 2 with (first | (go_at_call 5; refine (CR.out _ _).mono ?_; rintro e w1 ⟨ca, cc, ra, rc, rfl, hr1, hb1, hz1⟩))
  have HR1 : Hid (RowsTwo w1 (w.heap.size + 2) (w.heap.size + 2) (.slice ra (rawN n) rc) (rawN n) (cmpR X (rawN n))) := hr1
  have HB1 : Hid (Below w.heap.size w w1) := hb1
  clear hr1 hb1
  have HT2 : Hid (ItsApart ((w1.alloc (.cells #[.slice ca 2 cc, .slice ra (rawN n) rc] 26)).alloc (.cells #[.int .i64 2, .int .i64 0, .string ⟨#[]⟩, .int .i64 3, .int .i64 0, .string ⟨#[]⟩] 29)) (w.heap.size + 2 + 1) (Value.slice ra (rawN n) rc).ownBlock (.slice (some ⟨w1.heap.size + 1, 0, none⟩) 2 2) (cmpR X (rawN n) (rawN n)).len (cmpR X (rawN n) (rawN n)).at_) := by
    have h := two_apart (w := w1.alloc (.cells #[.slice ca 2 cc, .slice ra (rawN n) rc] 26)) (b := w1.heap.size + 1) (T := w.heap.size + 2 + 1) (g := (Value.slice ra (rawN n) rc).ownBlock) (X := lastR.at_) (p := ⟨2, 0, ⟨#[]⟩⟩) (q := ⟨3, 0, ⟨#[]⟩⟩) (by simp) (by simp <;> omega) (fun z hz => by have := HR1.out.lt z hz; simp <;> omega) rfl rfl
    have e : cmpR X (rawN n) (rawN n) = lastR := if_neg (Nat.lt_irrefl _)
    have h' : ItsApart ((w1.alloc (.cells #[.slice ca 2 cc, .slice ra (rawN n) rc] 26)).alloc (.cells #[.int .i64 2, .int .i64 0, .string ⟨#[]⟩, .int .i64 3, .int .i64 0, .string ⟨#[]⟩] 29)) (w.heap.size + 2 + 1) (Value.slice ra (rawN n) rc).ownBlock (.slice (some ⟨w1.heap.size + 1, 0, none⟩) 2 2) (cmpR X (rawN n) (rawN n)).len (cmpR X (rawN n) (rawN n)).at_ := by rw [e]; exact h
    exact h'
  go_upto_region 3 with (first
    | (at_builtin; refine wpList_push_two rfl (.tmp 20) (.tmp 24) rfl (w.heap.size + 2) (w.heap.size + 2) (rawN n) (.slice ra (rawN n) rc) (cmpR X (rawN n)) rfl (by exact HR1.out.below (by repeat (first | exact Below.refl _ _ | refine Below.alloc ?_ (by simp <;> omega) _ | refine Below.setCell ?_ (by simp <;> omega) _ | refine Below.drew ?_)) (Nat.le_refl _)) (Nat.le_refl _) (by simp [go_sem] <;> omega) ⟨w1.heap.size + 1 + 1, 0, none⟩ 1 (.slice (some ⟨w1.heap.size + 1, 0, none⟩) 2 2) rfl (by simp [go_sem]) (by exact HT2.out.alloc _) (by omega) ?_; intro v8 w8 hr8 hsh8 hg8 hat8; obtain ⟨va8, vc8, rfl⟩ := hsh8; obtain ⟨_, z2, z3⟩ := put_facts (wr := w1) hg8 (by repeat (first | exact Below.refl _ _ | refine Below.alloc ?_ (by simp <;> omega) _ | refine Below.setCell ?_ (by simp <;> omega) _ | refine Below.drew ?_)) HR1.out (Nat.le_refl _) hz1; have HB8 : Hid (Below w.heap.size w w8) := HB1.out.trans (z3.mono (by omega)); have hblk := hg8.block w1.heap.size (by simp [go_sem] <;> omega) (fun q => by have := HR1.out.lt _ q.symm; omega); have s0 := (World.cell?_of_block (a := ⟨w1.heap.size, 0, none⟩) hblk).trans (by simp [go_sem] : _ = some (.slice ca 2 cc)); have s1 := (World.cell?_of_block (a := ⟨w1.heap.size, 1, none⟩) hblk).trans (by simp [go_sem] : _ = some (.slice ra (rawN n) rc)); have sf := (World.frozen?_of_block (a := ⟨w1.heap.size, 1, none⟩) hblk).trans (by simp [go_sem] : _ = false); have HNO : Hid (∀ j, w8.cell? ⟨w1.heap.size, j + 2, none⟩ = none) := (fun j => (World.cell?_of_block (a := ⟨w1.heap.size, j + 2, none⟩) hblk).trans (by simp [go_sem])); have hsz := hg8.size; have sz : w1.heap.size < w8.heap.size := (by simp at hsz; omega); have HOWN : Hid ((Value.slice va8 (rawN n + 1) vc8).ownBlock ≠ some w1.heap.size) := (fun e => hat8.elim (fun h => by rw [h] at e; have := HR1.out.lt _ e; omega) (fun h => by rw [h] at e; simp at e; omega)); have HR9 : Hid (∀ z, RowsIs (w8.setCell ⟨w1.heap.size, 1, none⟩ z) (.slice va8 (rawN n + 1) vc8) (rawN n + 1) (cmpR X (rawN n))) := (fun z => rows_put hr8 HOWN.out HNO.out); clear hr8 hg8 hat8 z2 z3 hblk hsz))
  have s9 : (w8.setCell ⟨w1.heap.size, 1, none⟩ (.slice va8 (rawN n + 1) vc8)).cell? ⟨w1.heap.size, 1, none⟩ = some (.slice va8 (rawN n + 1) vc8) := by simp [go_sem, s1]
  have z9 : w1.heap.size < (w8.setCell ⟨w1.heap.size, 1, none⟩ (.slice va8 (rawN n + 1) vc8)).heap.size := by simpa using sz
  have HB9 : Hid (Below w.heap.size w (w8.setCell ⟨w1.heap.size, 1, none⟩ (.slice va8 (rawN n + 1) vc8))) := HB8.out.setCell (by have := HB1.out.size; simpa using this) _
  have hro := HR9.out (.slice va8 (rawN n + 1) vc8)
  clear HR9 HOWN HNO s0 s1 sf sz HT2 HR1
  generalize w8.setCell ⟨w1.heap.size, 1, none⟩ (.slice va8 (rawN n + 1) vc8) = w9 at *
  obtain ⟨_, _, e0, r1, r2, _, r3⟩ := hro
  cases e0
  obtain ⟨b8, o8, rfl, hb8, hrow⟩ := r3 (by omega)
  have HX : Hid (∀ q, q < rawN n + 1 → ∃ ub uo ucap, w9.cell? ⟨b8, o8 + q, none⟩ = some (.slice (some ⟨ub, uo, none⟩) 2 ucap) ∧ ub < w9.heap.size ∧ w9.cell? ⟨ub, uo + 3, none⟩ = some (.int .i64 (it1 X (rawN n) q).kind) ∧ w9.cell? ⟨ub, uo + 3 + 1, none⟩ = some (.int .i64 (it1 X (rawN n) q).n) ∧ w9.cell? ⟨ub, uo + 3 + 2, none⟩ = some (.string (it1 X (rawN n) q).s)) := fun q hq => by
    obtain ⟨u, h1, h2⟩ := hrow q hq
    rw [len_2] at h2
    obtain ⟨a, cap, rfl, _, _, _, h3⟩ := h2
    obtain ⟨ub, uo, rfl, h4, h5⟩ := h3 (by omega)
    obtain ⟨k0, k1, k2⟩ := h5 1 (by omega)
    rw [Nat.one_mul] at k0 k1 k2
    exact ⟨ub, uo, cap, h1, h4, k0, k1, k2⟩
  clear hrow r3
  have hmi : (0 : Int) < (rawN n : Int) + 1 := by omega
  have CQ : Hid (∀ x : Int, x = i ∨ x = j ∨ x = k → ∃ q : Nat, q < rawN n + 1 ∧ ∀ W, Calls Tryd.prog 6 #[.int .i64 x, .int .i64 ((rawN n : Int) + 1)] W fun e w' => e = .returned (.int .i64 q) ∧ w' = W) := fun x hx => by
    have hr := pk_range (n := x) hmi
    exact ⟨(pk x ((rawN n : Int) + 1)).toNat, by omega, fun W => by have h := CD.out W x hx; rw [← Int.toNat_of_nonneg hr.1] at h; exact h⟩
  obtain ⟨qx, hqx, cx⟩ := CQ.out i (.inl rfl)
  obtain ⟨qy, hqy, cy⟩ := CQ.out j (.inr (.inl rfl))
  obtain ⟨qz, hqz, cz⟩ := CQ.out k (.inr (.inr rfl))
  obtain ⟨ux, ox, kx, a0, a1, a2, a3, a4⟩ := HX.out qx hqx
  obtain ⟨uy, oy, ky, b0, b1, b2, b3, b4⟩ := HX.out qy hqy
  obtain ⟨uz, oz, kz, c0, c1, c2, c3, c4⟩ := HX.out qz hqz
  have CX : Hid (∀ W, Calls Tryd.prog 6 #[.int .i64 i, .int .i64 ((rawN n : Int) + 1)] W fun e w' => e = .returned (.int .i64 qx) ∧ w' = W) := cx
  have CY : Hid (∀ W, Calls Tryd.prog 6 #[.int .i64 j, .int .i64 ((rawN n : Int) + 1)] W fun e w' => e = .returned (.int .i64 qy) ∧ w' = W) := cy
  have CZ : Hid (∀ W, Calls Tryd.prog 6 #[.int .i64 k, .int .i64 ((rawN n : Int) + 1)] W fun e w' => e = .returned (.int .i64 qz) ∧ w' = W) := cz
  have aq : (qx : Int) < (rawN n : Int) + 1 := by omega
  have bq : (qy : Int) < (rawN n : Int) + 1 := by omega
  have cq : (qz : Int) < (rawN n : Int) + 1 := by omega
  have hu := Tryd.underlying29
  have HMX : Hid (mayI (it1 X (rawN n) qx) = true ∧ (it1 X (rawN n) qx).s.size ≤ 1) := may_1 X (rawN n) qx
  generalize it1 X (rawN n) qx = ix at *
  generalize it1 X (rawN n) qy = iy at *
  generalize it1 X (rawN n) qz = iz at *
  clear cx cy cz CQ CP CD HX HM
  have HSX : Hid (∀ W, Below w9.heap.size w9 W → W.cell? ⟨w1.heap.size, 1, none⟩ = some (.slice (some ⟨b8, o8, none⟩) (rawN n + 1) vc8) ∧ W.cell? ⟨b8, o8 + qx, none⟩ = some (.slice (some ⟨ux, ox, none⟩) 2 kx) ∧ W.cell? ⟨ux, ox + 3, none⟩ = some (.int .i64 ix.kind) ∧ W.cell? ⟨ux, ox + 3 + 1, none⟩ = some (.int .i64 ix.n) ∧ W.cell? ⟨ux, ox + 3 + 2, none⟩ = some (.string ix.s) ∧ w1.heap.size < W.heap.size ∧ b8 < W.heap.size ∧ ux < W.heap.size) := fun W h => ⟨(h.cell (p := ⟨w1.heap.size, 1, none⟩) z9).trans s9, (h.cell (p := ⟨b8, o8 + qx, none⟩) hb8).trans a0, (h.cell (p := ⟨ux, ox + 3, none⟩) a1).trans a2, (h.cell (p := ⟨ux, ox + 3 + 1, none⟩) a1).trans a3, (h.cell (p := ⟨ux, ox + 3 + 2, none⟩) a1).trans a4, Nat.lt_of_lt_of_le z9 h.size, Nat.lt_of_lt_of_le hb8 h.size, Nat.lt_of_lt_of_le a1 h.size⟩
  have HSY : Hid (∀ W, Below w9.heap.size w9 W → W.cell? ⟨w1.heap.size, 1, none⟩ = some (.slice (some ⟨b8, o8, none⟩) (rawN n + 1) vc8) ∧ W.cell? ⟨b8, o8 + qy, none⟩ = some (.slice (some ⟨uy, oy, none⟩) 2 ky) ∧ W.cell? ⟨uy, oy + 3, none⟩ = some (.int .i64 iy.kind) ∧ W.cell? ⟨uy, oy + 3 + 1, none⟩ = some (.int .i64 iy.n) ∧ W.cell? ⟨uy, oy + 3 + 2, none⟩ = some (.string iy.s) ∧ w1.heap.size < W.heap.size ∧ b8 < W.heap.size ∧ uy < W.heap.size) := fun W h => ⟨(h.cell (p := ⟨w1.heap.size, 1, none⟩) z9).trans s9, (h.cell (p := ⟨b8, o8 + qy, none⟩) hb8).trans b0, (h.cell (p := ⟨uy, oy + 3, none⟩) b1).trans b2, (h.cell (p := ⟨uy, oy + 3 + 1, none⟩) b1).trans b3, (h.cell (p := ⟨uy, oy + 3 + 2, none⟩) b1).trans b4, Nat.lt_of_lt_of_le z9 h.size, Nat.lt_of_lt_of_le hb8 h.size, Nat.lt_of_lt_of_le b1 h.size⟩
  have HSZ : Hid (∀ W, Below w9.heap.size w9 W → W.cell? ⟨w1.heap.size, 1, none⟩ = some (.slice (some ⟨b8, o8, none⟩) (rawN n + 1) vc8) ∧ W.cell? ⟨b8, o8 + qz, none⟩ = some (.slice (some ⟨uz, oz, none⟩) 2 kz) ∧ W.cell? ⟨uz, oz + 3, none⟩ = some (.int .i64 iz.kind) ∧ W.cell? ⟨uz, oz + 3 + 1, none⟩ = some (.int .i64 iz.n) ∧ W.cell? ⟨uz, oz + 3 + 2, none⟩ = some (.string iz.s) ∧ w1.heap.size < W.heap.size ∧ b8 < W.heap.size ∧ uz < W.heap.size) := fun W h => ⟨(h.cell (p := ⟨w1.heap.size, 1, none⟩) z9).trans s9, (h.cell (p := ⟨b8, o8 + qz, none⟩) hb8).trans c0, (h.cell (p := ⟨uz, oz + 3, none⟩) c1).trans c2, (h.cell (p := ⟨uz, oz + 3 + 1, none⟩) c1).trans c3, (h.cell (p := ⟨uz, oz + 3 + 2, none⟩) c1).trans c4, Nat.lt_of_lt_of_le z9 h.size, Nat.lt_of_lt_of_le hb8 h.size, Nat.lt_of_lt_of_le c1 h.size⟩
  go_region_held3 (fun W => W.cell? ⟨w1.heap.size, 1, none⟩ = some (.slice (some ⟨b8, o8, none⟩) (rawN n + 1) vc8) ∧ W.cell? ⟨b8, o8 + qx, none⟩ = some (.slice (some ⟨ux, ox, none⟩) 2 kx) ∧ W.cell? ⟨ux, ox + 3, none⟩ = some (.int .i64 ix.kind) ∧ W.cell? ⟨ux, ox + 3 + 1, none⟩ = some (.int .i64 ix.n) ∧ W.cell? ⟨ux, ox + 3 + 2, none⟩ = some (.string ix.s) ∧ w1.heap.size < W.heap.size ∧ b8 < W.heap.size ∧ ux < W.heap.size)
    ((refine HSX.out _ ?_; repeat (first | exact Hid.out (by assumption) | exact Below.refl _ _ | refine Below.alloc ?_ (by simp <;> omega) _ | refine Below.setCell ?_ (by simp <;> omega) _ | refine Below.drew ?_)))
    (first | (go_at_call 6; refine (CX.out _).mono ?_; rintro e w2 ⟨rfl, rfl⟩))
  all_goals
    rename_i hheld
    clear hheld
    refine ?mx
  go_upto_region 4 with fail
  go_region_held3 (fun W => W.cell? ⟨w1.heap.size, 1, none⟩ = some (.slice (some ⟨b8, o8, none⟩) (rawN n + 1) vc8) ∧ W.cell? ⟨b8, o8 + qy, none⟩ = some (.slice (some ⟨uy, oy, none⟩) 2 ky) ∧ W.cell? ⟨uy, oy + 3, none⟩ = some (.int .i64 iy.kind) ∧ W.cell? ⟨uy, oy + 3 + 1, none⟩ = some (.int .i64 iy.n) ∧ W.cell? ⟨uy, oy + 3 + 2, none⟩ = some (.string iy.s) ∧ w1.heap.size < W.heap.size ∧ b8 < W.heap.size ∧ uy < W.heap.size)
    ((refine HSY.out _ ?_; repeat (first | exact Hid.out (by assumption) | exact Below.refl _ _ | refine Below.alloc ?_ (by simp <;> omega) _ | refine Below.setCell ?_ (by simp <;> omega) _ | refine Below.drew ?_)))
    (first | (go_at_call 6; refine (CY.out _).mono ?_; rintro e w2 ⟨rfl, rfl⟩))
  all_goals
    rename_i hheld
    clear hheld
    refine ?my
  go_upto_region 5 with fail
  go_region_held3 (fun W => W.cell? ⟨w1.heap.size, 1, none⟩ = some (.slice (some ⟨b8, o8, none⟩) (rawN n + 1) vc8) ∧ W.cell? ⟨b8, o8 + qz, none⟩ = some (.slice (some ⟨uz, oz, none⟩) 2 kz) ∧ W.cell? ⟨uz, oz + 3, none⟩ = some (.int .i64 iz.kind) ∧ W.cell? ⟨uz, oz + 3 + 1, none⟩ = some (.int .i64 iz.n) ∧ W.cell? ⟨uz, oz + 3 + 2, none⟩ = some (.string iz.s) ∧ w1.heap.size < W.heap.size ∧ b8 < W.heap.size ∧ uz < W.heap.size)
    ((refine HSZ.out _ ?_; repeat (first | exact Hid.out (by assumption) | exact Below.refl _ _ | refine Below.alloc ?_ (by simp <;> omega) _ | refine Below.setCell ?_ (by simp <;> omega) _ | refine Below.drew ?_)))
    (first | (go_at_call 6; refine (CZ.out _).mono ?_; rintro e w2 ⟨rfl, rfl⟩))
  all_goals
    rename_i hheld
    clear hheld
    refine ?mz
  clear HSX HSY HSZ CX CY CZ a0 a1 a2 a3 a4 b0 b1 b2 b3 b4 c0 c1 c2 c3 c4 s9 r1 r2
  obtain ⟨W0, hW0⟩ : ∃ W0 : World, W0 = (((w9.alloc (.cells #[.int .i64 ix.kind, .int .i64 ix.n, .string ix.s] 29)).alloc (.cells #[.int .i64 iy.kind, .int .i64 iy.n, .string iy.s] 29)).alloc (.cells #[.int .i64 iz.kind, .int .i64 iz.n, .string iz.s] 29)).drew.drew.drew := ⟨_, rfl⟩
  have hs0 : W0.heap.size = w9.heap.size + 1 + 1 + 1 := by rw [hW0]; simp
  have h9 := HB9.out.size
  have HBW : Hid (Below w.heap.size w W0) := by
    rw [hW0]
    exact ((((HB9.out.alloc h9 _).alloc (by simp; omega) _).alloc (by simp; omega) _).drew).drew.drew
  have HC : Hid (∀ W, Below W0.heap.size W0 W → W.cell? ⟨w9.heap.size, 0, none⟩ = some (.int .i64 ix.kind) ∧ W.cell? ⟨w9.heap.size, 1, none⟩ = some (.int .i64 ix.n) ∧ W.cell? ⟨w9.heap.size, 2, none⟩ = some (.string ix.s) ∧ W.cell? ⟨w9.heap.size + 1, 0, none⟩ = some (.int .i64 iy.kind) ∧ W.cell? ⟨w9.heap.size + 1, 1, none⟩ = some (.int .i64 iy.n) ∧ W.cell? ⟨w9.heap.size + 1, 2, none⟩ = some (.string iy.s) ∧ W.cell? ⟨w9.heap.size + 1 + 1, 0, none⟩ = some (.int .i64 iz.kind) ∧ W.cell? ⟨w9.heap.size + 1 + 1, 1, none⟩ = some (.int .i64 iz.n) ∧ W.cell? ⟨w9.heap.size + 1 + 1, 2, none⟩ = some (.string iz.s) ∧ w9.heap.size + 1 + 1 < W.heap.size) := fun W h => by
    have hs := h.size
    exact ⟨(h.cell (p := ⟨w9.heap.size, 0, none⟩) (show w9.heap.size < W0.heap.size by omega)).trans (by rw [hW0]; simp [go_sem]), (h.cell (p := ⟨w9.heap.size, 1, none⟩) (show w9.heap.size < W0.heap.size by omega)).trans (by rw [hW0]; simp [go_sem]), (h.cell (p := ⟨w9.heap.size, 2, none⟩) (show w9.heap.size < W0.heap.size by omega)).trans (by rw [hW0]; simp [go_sem]), (h.cell (p := ⟨w9.heap.size + 1, 0, none⟩) (show w9.heap.size + 1 < W0.heap.size by omega)).trans (by rw [hW0]; simp [go_sem]), (h.cell (p := ⟨w9.heap.size + 1, 1, none⟩) (show w9.heap.size + 1 < W0.heap.size by omega)).trans (by rw [hW0]; simp [go_sem]), (h.cell (p := ⟨w9.heap.size + 1, 2, none⟩) (show w9.heap.size + 1 < W0.heap.size by omega)).trans (by rw [hW0]; simp [go_sem]), (h.cell (p := ⟨w9.heap.size + 1 + 1, 0, none⟩) (show w9.heap.size + 1 + 1 < W0.heap.size by omega)).trans (by rw [hW0]; simp [go_sem]), (h.cell (p := ⟨w9.heap.size + 1 + 1, 1, none⟩) (show w9.heap.size + 1 + 1 < W0.heap.size by omega)).trans (by rw [hW0]; simp [go_sem]), (h.cell (p := ⟨w9.heap.size + 1 + 1, 2, none⟩) (show w9.heap.size + 1 + 1 < W0.heap.size by omega)).trans (by rw [hW0]; simp [go_sem]), by omega⟩
  rw [← hW0]
  clear hW0
  have HD0 : Hid (Below W0.heap.size W0 W0) := Below.refl _ _
  obtain ⟨x0, x1, x2, y0, y1, y2, t0, t1, t2, g0⟩ := HC.out _ HD0.out
  go_upto_region 7 with (go_at_call 7; refine (CC.out _ ix iy).mono ?_; rintro e d1 ⟨rfl, hb1⟩)
  have HD1 : Hid (Below W0.heap.size W0 d1) := HD0.out.trans (hb1.mono HD0.out.size)
  clear x0 x1 x2 y0 y1 y2 t0 t1 t2 g0 hb1
  obtain ⟨x0, x1, x2, y0, y1, y2, t0, t1, t2, g0⟩ := HC.out _ HD1.out
  go_upto_region 8 with (go_at_call 7; refine (CC.out _ iy ix).mono ?_; rintro e d2 ⟨rfl, hb2⟩)
  have HD2 : Hid (Below W0.heap.size W0 d2) := HD1.out.trans (hb2.mono HD1.out.size)
  clear x0 x1 x2 y0 y1 y2 t0 t1 t2 g0 hb2
  obtain ⟨x0, x1, x2, y0, y1, y2, t0, t1, t2, g0⟩ := HC.out _ HD2.out
  go_upto_region 9 with (go_at_call 7; refine (CC.out _ iy iz).mono ?_; rintro e d3 ⟨rfl, hb3⟩)
  have HD3 : Hid (Below W0.heap.size W0 d3) := HD2.out.trans (hb3.mono HD2.out.size)
  clear x0 x1 x2 y0 y1 y2 t0 t1 t2 g0 hb3
  obtain ⟨x0, x1, x2, y0, y1, y2, t0, t1, t2, g0⟩ := HC.out _ HD3.out
  go_upto_region 10 with (go_at_call 7; refine (CC.out _ ix iz).mono ?_; rintro e d4 ⟨rfl, hb4⟩)
  have HD4 : Hid (Below W0.heap.size W0 d4) := HD3.out.trans (hb4.mono HD3.out.size)
  clear x0 x1 x2 y0 y1 y2 t0 t1 t2 g0 hb4
  obtain ⟨x0, x1, x2, y0, y1, y2, t0, t1, t2, g0⟩ := HC.out _ HD4.out
  have HT : Hid (¬ (cmpT ix iy ≤ 0 ∧ cmpT iy iz ≤ 0 ∧ 0 < cmpT ix iz)) := cmpT_three ix iy iz
  have HB4 : Hid (Below w.heap.size w d4) := HBW.out.trans (HD4.out.mono HBW.out.size)
  have CI1 : Hid (Calls Tryd.prog 8 #[.agg #[.int .i64 ix.kind, .int .i64 ix.n, .string ix.s]] d4 fun e w' => e = .returned (.int .i64 0) ∧ Below d4.heap.size d4 w') := CI.out d4 ix HB4.out HMX.out.1 HMX.out.2
  clear CI CC HC HD4 HBW HMX
  rcases ahead_tri ix iy with h | h | h
  · have hne : ix ≠ iy := fun e => ahead_irr iy (e ▸ h)
    rw [cmpT_lt h] at HT ⊢
    rw [cmpT_gt h]
    generalize cmpT iy iz = C at *
    generalize cmpT ix iz = D at *
    have hcd : C ≤ 0 → ¬ 0 < D := fun h1 h2 => HT.out ⟨by decide, h1, h2⟩
    clear HT h
    by_cases hC : C ≤ 0
    · have hD := hcd hC
      clear hcd
      rcases it_ne hne with q1 | ⟨q1, q2⟩ | ⟨q1, q2, q3⟩
      all_goals
        clear hne
        go_wp2_with (go_at_call 8; refine CI1.out.mono ?_; rintro e d5 ⟨rfl, hb5⟩)
        go_ret
        exact ⟨ret_bool (by simp), HB4.out.trans (hb5.mono HB4.out.size)⟩
    · clear hcd
      rcases it_ne hne with q1 | ⟨q1, q2⟩ | ⟨q1, q2, q3⟩
      all_goals
        clear hne
        go_wp2_with (go_at_call 8; refine CI1.out.mono ?_; rintro e d5 ⟨rfl, hb5⟩)
        go_ret
        exact ⟨ret_bool (by simp), HB4.out.trans (hb5.mono HB4.out.size)⟩
  · subst h
    rw [cmpT_eq] at HT ⊢
    generalize cmpT ix iz = C at *
    have hcd : C ≤ 0 → ¬ 0 < C := fun h1 h2 => by omega
    clear HT
    by_cases hC : C ≤ 0
    · have hD := hcd hC
      clear hcd
      go_wp2_with (go_at_call 8; refine CI1.out.mono ?_; rintro e d5 ⟨rfl, hb5⟩)
      go_ret
      exact ⟨ret_bool (by simp), HB4.out.trans (hb5.mono HB4.out.size)⟩
    · clear hcd
      go_wp2_with (go_at_call 8; refine CI1.out.mono ?_; rintro e d5 ⟨rfl, hb5⟩)
      go_ret
      exact ⟨ret_bool (by simp), HB4.out.trans (hb5.mono HB4.out.size)⟩
  · have hne : ix ≠ iy := fun e => ahead_irr iy (e ▸ h)
    rw [cmpT_gt h]
    rw [cmpT_lt h]
    generalize cmpT iy iz = C at *
    generalize cmpT ix iz = D at *
    clear HT h
    rcases it_ne hne with q1 | ⟨q1, q2⟩ | ⟨q1, q2, q3⟩
    all_goals
      clear hne
      go_wp2_with (go_at_call 8; refine CI1.out.mono ?_; rintro e d5 ⟨rfl, hb5⟩)
      go_ret
      exact ⟨ret_bool (by simp), HB4.out.trans (hb5.mono HB4.out.size)⟩
end Go.Proofs.YtondigpnplmikaaDoor
