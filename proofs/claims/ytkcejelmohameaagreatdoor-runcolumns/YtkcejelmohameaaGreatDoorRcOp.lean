/-
  AN OP OF A PLAN, where it lies; tables, aggregates, what is made: what is refused of each.
-/
import Derived.Test.YtkcejelmohameaaGreatDoorRcBase
import Derived.Test.YtkcejelmohameaaGreatDoorRlCrossI
import Derived.Test.YtkcejelmohameaaGreatDoorRuFn
import Derived.Test.YtkcejelmohameaaGreatDoorKpOrd
import Derived.Deep.QuietTactic
import Derived.BigQuiet
import Derived.Deep.RegionHeld3
set_option linter.unusedVariables false
namespace Go.Proofs.YtkcejelmohameaaGreatDoor
set_option maxRecDepth 100000
open Go.RowKit Go.WideShapes

/-- a list of numbers -/
def ZsIs (w : World) (v : Value) (n : Nat) (Z : Nat → Int) : Prop := ∃ a cap, v = .slice a n cap ∧ n ≤ cap ∧ cap ≤ maxLen ∧ (0 < n → ∃ b off, a = some ⟨b, off, none⟩ ∧ b < w.heap.size ∧ ∀ j, j < n → w.cell? ⟨b, off + j, none⟩ = some (.int .i64 (Z j)))
theorem ZsIs.below {w w' : World} {v : Value} {n : Nat} {Z : Nat → Int} (h : ZsIs w v n Z) (hb : Below w.heap.size w w') : ZsIs w' v n Z := by
  obtain ⟨a, cap, h1, h2, h3, h4⟩ := h
  refine ⟨a, cap, h1, h2, h3, fun h0 => ?_⟩
  obtain ⟨b, off, h5, h6, h7⟩ := h4 h0
  exact ⟨b, off, h5, Nat.lt_of_lt_of_le h6 hb.size, fun j hj => (hb.cell (p := ⟨b, off + j, none⟩) h6).trans (h7 j hj)⟩
/-- an op lies there -/
structure OpAt (w : World) (pb po : Nat) (o : Opm) : Prop where
  lt : pb < w.heap.size
  kind : w.cell? ⟨pb, po, none⟩ = some (.int .i64 o.kind)
  ins : ∃ a cap, w.cell? ⟨pb, po + 1, none⟩ = some (.slice a o.nin cap) ∧ ZsIs w (.slice a o.nin cap) o.nin o.ins
  new : w.cell? ⟨pb, po + 2, none⟩ = some (.string o.new)
  cols : ∃ a cap, w.cell? ⟨pb, po + 3, none⟩ = some (.slice a o.cols.len cap) ∧ StrsIs w (.slice a o.cols.len cap) o.cols.len o.cols.at_
  olds : ∃ a cap, w.cell? ⟨pb, po + 4, none⟩ = some (.slice a o.olds.len cap) ∧ StrsIs w (.slice a o.olds.len cap) o.olds.len o.olds.at_
  part : w.cell? ⟨pb, po + 5, none⟩ = some (.string o.part)
  name : w.cell? ⟨pb, po + 6, none⟩ = some (.string o.name)
  n : w.cell? ⟨pb, po + 7, none⟩ = some (.int .i64 o.n)
  axis : w.cell? ⟨pb, po + 8, none⟩ = some (.int .i64 o.axis)
  tk : w.cell? ⟨pb, po + 9, none⟩ = some (.int .i64 o.tk)
  tn : w.cell? ⟨pb, po + 10, none⟩ = some (.string o.tn)
  rc : ∃ a cap, w.cell? ⟨pb, po + 11, none⟩ = some (.slice a o.rc.len cap) ∧ StrsIs w (.slice a o.rc.len cap) o.rc.len o.rc.at_
  rr : ∃ a cap, w.cell? ⟨pb, po + 12, none⟩ = some (.slice a o.rm cap) ∧ RowsIs w (.slice a o.rm cap) o.rm o.rr
theorem OpAt.below {w w' : World} {pb po : Nat} {o : Opm} (h : OpAt w pb po o) (hb : Below w.heap.size w w') : OpAt w' pb po o := by
  have c : ∀ k, w'.cell? ⟨pb, k, none⟩ = w.cell? ⟨pb, k, none⟩ := fun k => hb.cell (p := ⟨pb, k, none⟩) h.lt
  obtain ⟨h0, h1, ⟨a2, k2, h2, g2⟩, h3, ⟨a4, k4, h4, g4⟩, ⟨a5, k5, h5, g5⟩, h6, h7, h8, h9, h10, h11, ⟨a12, k12, h12, g12⟩, ⟨a13, k13, h13, g13⟩⟩ := h
  exact ⟨Nat.lt_of_lt_of_le h0 hb.size, (c _).trans h1, ⟨a2, k2, (c _).trans h2, g2.below hb⟩, (c _).trans h3, ⟨a4, k4, (c _).trans h4, g4.below hb⟩, ⟨a5, k5, (c _).trans h5, g5.below hb⟩, (c _).trans h6, (c _).trans h7, (c _).trans h8, (c _).trans h9, (c _).trans h10, (c _).trans h11, ⟨a12, k12, (c _).trans h12, g12.below hb⟩, ⟨a13, k13, (c _).trans h13, g13.below hb⟩⟩
/-- its sizes -/
structure OpFine (o : Opm) : Prop where
  new : o.new.size ≤ maxLen
  cols : StrsFine o.cols.len o.cols.at_
  olds : StrsFine o.olds.len o.olds.at_
  part : o.part.size ≤ maxLen
  name : o.name.size ≤ maxLen
  tn : o.tn.size ≤ maxLen
  rc : StrsFine o.rc.len o.rc.at_
  rr : RowsFine o.rm o.rr
theorem aggB_iff {s : ByteArray} : aggB s = true ↔ isG s := by unfold aggB isG; exact decide_eq_true_iff
theorem node_no {r : Row} : nodeR r = false ↔ ∀ j, j < r.len → ¬ (r.at_ j).kind = 1 := by
  unfold nodeR
  rw [List.any_eq_false]
  constructor
  · intro h j hj; simpa using h j (List.mem_range.2 hj)
  · intro h j hj; simpa using h j (List.mem_range.1 hj)
theorem node_yes {r : Row} {j : Nat} (hj : j < r.len) (h : (r.at_ j).kind = 1) : nodeR r = true := by
  unfold nodeR; rw [List.any_eq_true]; exact ⟨j, List.mem_range.2 hj, by simpa using h⟩
theorem nodes_yes {R : Nat → Row} {m i : Nat} (hi : i < m) (h : nodeR (R i) = true) : nodesB R m = true := by
  unfold nodesB; rw [List.any_eq_true]; exact ⟨i, List.mem_range.2 hi, h⟩
theorem nodes_no {R : Nat → Row} {m : Nat} (h : ∀ i, i < m → nodeR (R i) = false) : nodesB R m = false := by
  unfold nodesB; rw [List.any_eq_false]; intro i hi; simp [h i (List.mem_range.1 hi)]
/-- what is refused of a table -/
def tabF (C : Nat → ByteArray) (n : Nat) (R : Nat → Row) (m : Nat) : Int := if relF C n R m = 0 then (if nodesB R m = true then 12 else 0) else relF C n R m
set_option maxHeartbeats 3200000 in
theorem checkTable_is (c q : Value) (n m : Nat) (C : Nat → ByteArray) (R : Nat → Row) (w : World) (hc : StrsIs w c n C) (hq : RowsIs w q m R) (hf : StrsFine n C) (hg : RowsFine m R) (hT : Tabs w) :
    Calls Tryz.prog 63 #[.agg #[c, q]] w fun e w' => e = .returned (.int .i64 (tabF C n R m)) ∧ Below w.heap.size w w' := by
  have CK : Hid (∀ W, Below w.heap.size w W → Calls Tryz.prog 93 #[.agg #[c, q]] W fun e w' => e = .returned (.int .i64 (relF C n R m)) ∧ Below W.heap.size W w') := fun W hW => relCheck_is c q n m C R W (hc.below hW) (hq.below hW) hf hg (Utf8Tabs_below hT hW)
  have HQ : Hid (∀ W, Below w.heap.size w W → RowsIs W q m R) := fun W hW => hq.below hW
  have HG := hidK hg
  obtain ⟨ca, cc, rfl, _⟩ := hc
  obtain ⟨qa, qc, rfl, q1, q2, _⟩ := hq
  unfold maxLen at q2
  unfold tabF
  clear hT hf hg
  by_cases h0 : relF C n R m = 0
  rotate_left
  · have h0b : (relF C n R m == 0) = false := by simpa using h0
    rw [if_neg h0]
    generalize relF C n R m = r at *
    clear h0
    go_enter Tryz.func63, Tryz.ntmps63
    go_wp2_with (go_at_call 93; refine (CK.out _ ?_).mono ?_; (· (focus (repeat (first | exact Below.refl _ _ | exact Hid.out (by assumption) | refine Below.setCell ?_ (by first | omega | (simp <;> omega)) _ | refine Below.alloc ?_ (by first | omega | (simp <;> omega)) _)))); rintro e w1 ⟨rfl, hb1⟩; have HB1 : Hid (Below w.heap.size w w1) := Below.trans (by (focus (repeat (first | exact Below.refl _ _ | exact Hid.out (by assumption) | refine Below.setCell ?_ (by first | omega | (simp <;> omega)) _ | refine Below.alloc ?_ (by first | omega | (simp <;> omega)) _)))) (hb1.mono (by first | omega | (simp <;> omega))); clear hb1)
    go_ret
    exact ⟨rfl, HB1.out⟩
  · rw [if_pos h0]
    rw [h0] at CK
    obtain ⟨r, hr⟩ : ∃ r : Int, r = (if nodesB R m = true then 12 else 0) := ⟨_, rfl⟩
    rw [← hr]
    have HRR := hidK hr
    clear h0 hr
    go_enter Tryz.func63, Tryz.ntmps63
    go_wp2_with (go_at_call 93; refine (CK.out _ ?_).mono ?_; (· (focus (repeat (first | exact Below.refl _ _ | exact Hid.out (by assumption) | refine Below.setCell ?_ (by first | omega | (simp <;> omega)) _ | refine Below.alloc ?_ (by first | omega | (simp <;> omega)) _)))); rintro e w1 ⟨rfl, hb1⟩; have HB1 : Hid (Below w.heap.size w w1) := Below.trans (by (focus (repeat (first | exact Below.refl _ _ | exact Hid.out (by assumption) | refine Below.setCell ?_ (by first | omega | (simp <;> omega)) _ | refine Below.alloc ?_ (by first | omega | (simp <;> omega)) _)))) (hb1.mono (by first | omega | (simp <;> omega))); have HR1 : Hid (w1.heap[w.heap.size]? = some (.cells #[.slice ca n cc, .slice qa m qc] 40)) := (hb1.block _ (by first | omega | (simp <;> omega))).trans (kNew rfl); obtain ⟨q0, q1, q2, q3, q4⟩ := k2 HR1.out; clear hb1)
    go_loopw [16] (fun i wr => ∃ k : Nat, k ≤ m ∧ i = .int .i64 (k : Int) ∧ (∀ t, t < k → nodeR (R t) = false) ∧ Below w1.heap.size w1 wr) (fun i _ => m - (intOf i).toNat)
    case atStart => exact ⟨0, Nat.zero_le _, rfl, fun t ht => absurd ht (Nat.not_lt_zero t), Below.refl _ _⟩
    case round =>
      obtain ⟨k, hk, rfl, hall, hb⟩ := hrel
      have HALL := hidK hall
      have HB := hidK hb
      have hz := hb.size
      have HQr := hidK (HQ.out wr (HB1.out.trans (hb.mono HB1.out.size)))
      clear hall hb
      by_cases hlt : k < m
      · obtain ⟨_, _, e0, _, _, _, hrows⟩ := HQr.out
        obtain ⟨rb, ro, rfl, hrb, hat⟩ := hrows (by omega)
        obtain rfl : qa = some ⟨rb, ro, none⟩ := by cases e0; rfl
        obtain ⟨u, e1, hu⟩ := hat k hlt
        have hki : (k : Int) < (m : Int) := by omega
        have HU := hidK hu
        obtain ⟨ua, uc, rfl, u1, u2, _, u3⟩ := hu
        have U3 := hidK u3
        unfold maxLen at u2
        have hln : (R k).len * 32 ≤ 140737488351232 := (HG.out.2 k hlt).1
        obtain ⟨N, hN⟩ : ∃ N, N = (R k).len := ⟨_, rfl⟩
        rw [← hN] at e1 u1 hln
        rw [← hN] at U3
        clear e0 hrows hat u3 HU
        go_wp2
        go_loopw [22] (fun i W => ∃ j : Nat, j ≤ N ∧ i = .int .i64 (j : Int) ∧ (∀ t, t < j → ¬ ((R k).at_ t).kind = 1) ∧ Below wr.heap.size wr W) (fun i _ => N - (intOf i).toNat)
        case atStart => exact ⟨0, Nat.zero_le _, rfl, fun t ht => absurd ht (Nat.not_lt_zero t), Below.refl _ _⟩
        case round =>
          obtain ⟨j, hj, rfl, hjall, hbj⟩ := hrel
          have HJ := hidK hjall
          have HBJ := hidK hbj
          have hzj := hbj.size
          clear hjall hbj
          by_cases hjl : j < N
          · obtain ⟨ib, io, rfl, hib, hits⟩ := U3.out (by omega)
            obtain ⟨x0, x1, x2⟩ := hits j (by omega)
            have y0 := (HBJ.out.cell (p := ⟨ib, io + j * 3, none⟩) hib).trans x0
            have y1 := (HBJ.out.cell (p := ⟨ib, io + j * 3 + 1, none⟩) hib).trans x1
            have y2 := (HBJ.out.cell (p := ⟨ib, io + j * 3 + 2, none⟩) hib).trans x2
            have hji : (j : Int) < (N : Int) := by omega
            clear hits x0 x1 x2
            by_cases hx : ((R k).at_ j).kind = 1
            · have HX : Hid (nodesB R m = true) := nodes_yes hlt (node_yes (by omega) hx)
              rw [hx] at y0
              clear hx
              generalize (R k).at_ j = x at *
              go_wp2
              go_ret
              refine ⟨by rw [HRR.out, if_pos HX.out]; rfl, ?_⟩
              exact HB1.out.trans ((HB.out.trans ((HBJ.out.alloc hzj _).mono hz)).mono HB1.out.size)
            · have HX : Hid (∀ t, t < j + 1 → ¬ ((R k).at_ t).kind = 1) := fun t ht => by
                by_cases e : t = j
                · rw [e]; exact hx
                · exact HJ.out t (by omega)
              have hxb : (((R k).at_ j).kind == 1) = false := by simpa using hx
              generalize (R k).at_ j = x at y0 y1 y2 hxb hx
              clear hx
              go_wp2
              go_roundw
              case rel => exact ⟨j + 1, by omega, by go_num, HX.out, HBJ.out.alloc hzj _⟩
              case measure => simp [intOf]; omega
          · have HX : Hid (∀ t, t < k + 1 → nodeR (R t) = false) := fun t ht => by
              by_cases e : t = k
              · rw [e]; exact node_no.2 fun a ha => HJ.out a (by omega)
              · exact HALL.out t (by omega)
            go_wp2
            go_roundw
            case rel => exact ⟨k + 1, by omega, by go_num, HX.out, HB.out.trans (HBJ.out.mono hz)⟩
            case measure => simp [intOf]; omega
      · have HX : Hid (nodesB R m = false) := nodes_no fun i hi => HALL.out i (by omega)
        go_wp2
        go_ret
        refine ⟨by rw [HRR.out, HX.out]; rfl, HB1.out.trans (HB.out.mono HB1.out.size)⟩
theorem colI_none (C : Nat → ByteArray) (s : ByteArray) : colI C 0 s = -1 := by unfold colI; rfl
set_option maxHeartbeats 1600000 in
theorem checkAggregate_is (s : ByteArray) (w : World) (hT : Tabs w) :
    Calls Tryz.prog 64 #[.string s] w fun e w' => e = .returned (.int .i64 (if aggB s = true then 0 else 6)) ∧ Below w.heap.size w w' := by
  have C0 : StrsIs w (.slice none 0 0) 0 (fun _ => ⟨#[]⟩) := nil_strs w _
  have F0 : StrsFine 0 (fun _ => (⟨#[]⟩ : ByteArray)) := ⟨by omega, fun i hi => absurd hi (Nat.not_lt_zero i)⟩
  have r0 : relF (fun _ => (⟨#[]⟩ : ByteArray)) 0 rNo 0 = 0 := by rw [relF0]; rfl
  by_cases hs : aggB s = true
  · have CG : Hid (Calls Tryz.prog 94 #[.agg #[.slice none 0 0, .slice none 0 0], .string ⟨#[]⟩, .string ⟨#[]⟩, .string s, .string ⟨#[]⟩] w fun e w' => e = .returned (.tuple #[.agg #[.slice none 0 0, .slice none 0 0], .int .i64 9]) ∧ Below w.heap.size w w') :=
      group_part (.slice none 0 0) (.slice none 0 0) ⟨#[]⟩ ⟨#[]⟩ s ⟨#[]⟩ 0 0 _ rNo w C0 (Row0.nil.is w rNo) F0 (rows0_fine _) hT r0 (aggB_iff.1 hs) (colI_none _ _)
    rw [if_pos hs]
    clear hT C0 F0 r0 hs
    go_enter Tryz.func64, Tryz.ntmps64
    go_wp2_with (go_at_call 94; refine CG.out.mono ?_; rintro e w1 ⟨rfl, hb1⟩; have HB1 := hidK hb1; have hz := hb1.size; clear hb1)
    go_ret
    exact ⟨rfl, HB1.out.alloc (by omega) _⟩
  · have CG : Hid (Calls Tryz.prog 94 #[.agg #[.slice none 0 0, .slice none 0 0], .string ⟨#[]⟩, .string ⟨#[]⟩, .string s, .string ⟨#[]⟩] w fun e w' => e = .returned (.tuple #[.agg #[.slice none 0 0, .slice none 0 0], .int .i64 6]) ∧ Below w.heap.size w w') :=
      group_none (.slice none 0 0) (.slice none 0 0) ⟨#[]⟩ ⟨#[]⟩ s ⟨#[]⟩ 0 0 _ rNo w C0 (Row0.nil.is w rNo) F0 (rows0_fine _) hT r0 (fun h => hs (aggB_iff.2 h))
    rw [if_neg hs]
    clear hT C0 F0 r0 hs
    go_enter Tryz.func64, Tryz.ntmps64
    go_wp2_with (go_at_call 94; refine CG.out.mono ?_; rintro e w1 ⟨rfl, hb1⟩; have HB1 := hidK hb1; have hz := hb1.size; clear hb1)
    go_ret
    exact ⟨rfl, HB1.out.alloc (by omega) _⟩
set_option maxHeartbeats 1600000 in
theorem checkMake_is (k : Int) (s : ByteArray) (w : World) (hs : s.size ≤ maxLen) :
    Calls Tryz.prog 66 #[.int .i64 k, .string s] w fun e w' => e = .returned (.int .i64 (makeF k s)) ∧ Below w.heap.size w w' := by
  have CN : Hid (Calls Tryz.prog 97 #[.string s] w fun e w' => e = .returned (.int .i64 (nameF s)) ∧ Below w.heap.size w w') := (checkName_any s w hs).mono fun e w' ⟨h1, h2⟩ => ⟨h1, by rw [h2]; exact Below.refl _ _⟩
  unfold makeF
  clear hs
  by_cases h1 : k = 1
  · subst h1
    rw [if_pos (.inl rfl)]
    generalize nameF s = r at *
    go_enter Tryz.func66, Tryz.ntmps66
    go_wp2_with (go_at_call 97; refine CN.out.mono ?_; rintro e w1 ⟨rfl, hb1⟩)
    go_ret
    exact ⟨rfl, hb1⟩
  by_cases h2 : k = 2
  · subst h2
    rw [if_pos (.inr rfl)]
    generalize nameF s = r at *
    clear h1
    go_enter Tryz.func66, Tryz.ntmps66
    go_wp2_with (go_at_call 97; refine CN.out.mono ?_; rintro e w1 ⟨rfl, hb1⟩)
    go_ret
    exact ⟨rfl, hb1⟩
  rw [if_neg (by omega)]
  by_cases h3 : k = 3
  · subst h3
    rw [if_pos rfl]
    clear h1 h2
    go_enter Tryz.func66, Tryz.ntmps66
    go_wp2
    go_ret
    exact ⟨rfl, Below.refl _ _⟩
  · rw [if_neg h3]
    have b1 : (k == 1) = false := by simpa using h1
    have b2 : (k == 2) = false := by simpa using h2
    have b3 : (k == 3) = false := by simpa using h3
    clear h1 h2 h3
    go_enter Tryz.func66, Tryz.ntmps66
    go_wp2
    go_ret
    exact ⟨rfl, Below.refl _ _⟩
end Go.Proofs.YtkcejelmohameaaGreatDoor
