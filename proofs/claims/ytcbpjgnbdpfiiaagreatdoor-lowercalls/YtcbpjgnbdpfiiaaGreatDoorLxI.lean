/-
  THE TEXTS of LowerCalls: cut, and parsed.
-/
import Derived.Test.YtcbpjgnbdpfiiaaGreatDoorLxG
import Derived.Test.YtcbpjgnbdpfiiaaGreatDoorPtFlw
import Derived.Test.YtcbpjgnbdpfiiaaGreatDoorTkCheck
import Derived.Test.YtcbpjgnbdpfiiaaGreatDoorTcCut
set_option linter.unusedVariables false
namespace Go.Proofs.YtcbpjgnbdpfiiaaGreatDoor
set_option maxRecDepth 100000
open Go.RowKit Go.WideShapes

theorem bk3L {w : World} {b : Nat} {x y z : Value} {T : TypeId} (h : w.heap[b]? = some (.cells #[x, y, z] T)) : w.cell? ⟨b, 0, none⟩ = some x ∧ w.cell? ⟨b, 1, none⟩ = some y ∧ w.cell? ⟨b, 2, none⟩ = some z ∧ b < w.heap.size :=
  ⟨by rw [World.cell?, h]; rfl, by rw [World.cell?, h]; rfl, by rw [World.cell?, h]; rfl, (Array.getElem?_eq_some_iff.1 h).1⟩
set_option maxHeartbeats 3200000 in
theorem truth_is (lb : Nat) (m1 m2 m3 : Value) (p : Nat) (w : World) (hl : w.heap[lb]? = some (.cells #[m1, m2, m3, .int .i64 (p : Int), .int .i64 0] 78)) (hp : p + 1 ≤ 700) :
    Calls Tryz.prog 127 #[.pointer (some ⟨lb, 0, none⟩), .bool true] w fun e w' => e = .returned (.agg #[.int .i64 1, .int .i64 4, .int .i64 1, .string ⟨#[]⟩, .string ⟨#[]⟩, .string ⟨#[]⟩, .int .i64 0, .int .i64 0, .int .i64 0, .string ⟨#[]⟩, .slice none 0 0]) ∧ Kp lb m1 m2 m3 (p + 1) w w' := by
  have HL := hidC hl
  obtain ⟨_, _, _, _, _, _, l6⟩ := bk5 hl
  have CM : Hid (∀ W, W.heap[lb]? = some (.cells #[m1, m2, m3, .int .i64 (p : Int), .int .i64 0] 78) → Calls Tryz.prog 102 _ W _) := fun W hW => lit_is lb m1 m2 m3 p ⟨4, 1, ⟨#[]⟩⟩ W hW hp (Nat.zero_le _)
  clear hl hp
  unfold Kp at CM ⊢
  generalize ((p + 1 : Nat) : Int) = q at *
  go_enter Tryz.func127, Tryz.ntmps127
  go_upto_region 4 with fail
  obtain ⟨W1, hW1⟩ : ∃ W, W = (w.alloc (.cells #[.int .i64 0, .int .i64 0, .int .i64 0, .string ⟨#[]⟩, .string ⟨#[]⟩, .string ⟨#[]⟩, .int .i64 0, .int .i64 0, .int .i64 0, .string ⟨#[]⟩, .slice none 0 0] 43)).alloc (.cells #[.int .i64 4, .int .i64 1, .string ⟨#[]⟩] 32) := ⟨_, rfl⟩
  have HL1 : Hid (W1.heap[lb]? = some (.cells #[m1, m2, m3, .int .i64 (p : Int), .int .i64 0] 78)) := by rw [hW1]; exact aOld (aOld HL.out)
  have HO1 : Hid (∀ b, b < w.heap.size → W1.heap[b]? = w.heap[b]?) := by
    rw [hW1]
    intro b hb
    obtain ⟨o, ho⟩ : ∃ o, w.heap[b]? = some o := ⟨_, Array.getElem?_eq_getElem hb⟩
    rw [ho]
    exact aOld (aOld ho)
  have HB1 : Hid (Below lb w W1) := by rw [hW1]; exact Below.alloc (Below.alloc (Below.refl lb w) (Nat.le_of_lt l6) _) (by simp; omega) _
  have HR1 : Hid (W1.heap[w.heap.size]? = some (.cells #[.int .i64 0, .int .i64 0, .int .i64 0, .string ⟨#[]⟩, .string ⟨#[]⟩, .string ⟨#[]⟩, .int .i64 0, .int .i64 0, .int .i64 0, .string ⟨#[]⟩, .slice none 0 0] 43)) := by rw [hW1]; exact aOld (aNew rfl)
  have HI1 : Hid (W1.heap[w.heap.size + 1]? = some (.cells #[.int .i64 4, .int .i64 1, .string ⟨#[]⟩] 32)) := by rw [hW1]; exact aNew (by simp)
  have hz1 : w.heap.size + 1 < W1.heap.size := (Array.getElem?_eq_some_iff.1 HI1.out).1
  rw [← hW1]
  clear hW1
  obtain ⟨i0, i1, i2, i3⟩ := bk3L HI1.out
  go_wp2_with (go_at_call 102; refine (CM.out _ HL1.out).mono ?_; rintro e w1 ⟨rfl, hl1, ho1, hb1⟩; have HL2 := hidC hl1; have HZ1 := hidC ((ho1 w.heap.size (by omega) (by omega)).trans HR1.out); have HO2 : Hid (∀ b, b < w.heap.size → b ≠ lb → w1.heap[b]? = w.heap[b]?) := (fun b hb hne => (ho1 b (by omega) hne).trans (HO1.out b hb)); have HB2 : Hid (Below lb w w1) := Below.trans HB1.out hb1; obtain ⟨z0, z1, z2, z3, z4, z5, z6, z7, z8, z9, z10, z11, z12⟩ := bk11 HZ1.out; clear hl1 ho1 hb1)
  obtain ⟨W2, hW2⟩ : ∃ W, W = (((((((((((w1).setCell ⟨w.heap.size, 0, none⟩ (.int .i64 1)).setCell ⟨w.heap.size, 1, none⟩ (.int .i64 4)).setCell ⟨w.heap.size, 2, none⟩ (.int .i64 1)).setCell ⟨w.heap.size, 3, none⟩ (.string ⟨#[]⟩)).setCell ⟨w.heap.size, 4, none⟩ (.string ⟨#[]⟩)).setCell ⟨w.heap.size, 5, none⟩ (.string ⟨#[]⟩)).setCell ⟨w.heap.size, 6, none⟩ (.int .i64 0)).setCell ⟨w.heap.size, 7, none⟩ (.int .i64 0)).setCell ⟨w.heap.size, 8, none⟩ (.int .i64 0)).setCell ⟨w.heap.size, 9, none⟩ (.string ⟨#[]⟩)).setCell ⟨w.heap.size, 10, none⟩ (.slice none 0 0) := ⟨_, rfl⟩
  have hW3 : W2 = putL w1 w.heap.size 0 [.int .i64 1, .int .i64 4, .int .i64 1, .string ⟨#[]⟩, .string ⟨#[]⟩, .string ⟨#[]⟩, .int .i64 0, .int .i64 0, .int .i64 0, .string ⟨#[]⟩, .slice none 0 0] := hW2
  have HZ2 : Hid (W2.heap[w.heap.size]? = some (.cells #[.int .i64 1, .int .i64 4, .int .i64 1, .string ⟨#[]⟩, .string ⟨#[]⟩, .string ⟨#[]⟩, .int .i64 0, .int .i64 0, .int .i64 0, .string ⟨#[]⟩, .slice none 0 0] 43)) := by rw [hW3]; exact putL_same HZ1.out _ rfl
  have HL3 : Hid (W2.heap[lb]? = some (.cells #[m1, m2, m3, .int .i64 q, .int .i64 0] 78)) := by rw [hW3]; exact (putL_other (by omega) _ _ _).trans HL2.out
  have HO3 : Hid (∀ c, c < w.heap.size → c ≠ lb → W2.heap[c]? = w.heap[c]?) := by rw [hW3]; exact fun c h1 h2 => (putL_other (by omega) _ _ _).trans (HO2.out c h1 h2)
  have HB3 : Hid (Below lb w W2) := by rw [hW3]; exact putL_below (B := lb) (by omega) _ _ _ HB2.out
  rw [← hW2]
  clear hW2 hW3
  obtain ⟨y0, y1, y2, y3, y4, y5, y6, y7, y8, y9, y10, _, _⟩ := bk11 HZ2.out
  exact bodyPost_ret (v := .agg #[.int .i64 1, .int .i64 4, .int .i64 1, .string ⟨#[]⟩, .string ⟨#[]⟩, .string ⟨#[]⟩, .int .i64 0, .int .i64 0, .int .i64 0, .string ⟨#[]⟩, .slice none 0 0]) (by simp [results, Tryz.results127, go_sem, y0, y1, y2, y3, y4, y5, y6, y7, y8, y9, y10]) rfl ⟨rfl, ⟨HL3.out, HO3.out, HB3.out⟩⟩
set_option maxHeartbeats 3200000 in
theorem called_true (it : It) (cn ax tk : Int) (tn : ByteArray) (n : Nat) (A : Nat → Ph) (N : ByteArray → Nat) (p : Nat) (hp : p + 1 ≤ 700) : RunF 101 (phN 8 it ⟨#[116, 114, 117, 101]⟩ cn ax tk tn n A) N p (p + 1) (exN 1 ⟨4, 1, ⟨#[]⟩⟩ ⟨#[]⟩ ⟨#[]⟩ 0 0 (fun _ => .no)) := by
  intro w lb tb ob sb S pb po u hB hX hP
  have HX := HidOf hX
  have hll := hB.ll
  have hsl := hB.sl
  have hls := hB.ls
  obtain ⟨aa, ac, a10, c10', hu, _⟩ := hP.v
  have e4 := (phAt_c (hu ▸ hP.c)).c4
  have hpw := (hP.h pb hP.s).1
  have CM : Hid (∀ W, W.heap[lb]? = some (.cells #[.map (some tb), .map (some ob), .map (some sb), .int .i64 (p : Int), .int .i64 0] 78) → Calls Tryz.prog 127 _ W _) := fun W hW => truth_is lb _ _ _ p W hW hp
  clear hP hB hX
  go_enter Tryz.func101, Tryz.ntmps101
  go_upto_region 3 with fail
  obtain ⟨W1, hW1⟩ : ∃ W, W = w.alloc (.cells #[.int .i64 0, .int .i64 0, .int .i64 0, .string ⟨#[]⟩, .string ⟨#[]⟩, .string ⟨#[]⟩, .int .i64 0, .int .i64 0, .int .i64 0, .string ⟨#[]⟩, .slice none 0 0] 43) := ⟨_, rfl⟩
  have HS1 : Hid (XS w lb tb ob sb N p W1) := by rw [hW1]; exact HX.out.alloc _
  have HR1 : Hid (W1.heap[w.heap.size]? = some (.cells #[.int .i64 0, .int .i64 0, .int .i64 0, .string ⟨#[]⟩, .string ⟨#[]⟩, .string ⟨#[]⟩, .int .i64 0, .int .i64 0, .int .i64 0, .string ⟨#[]⟩, .slice none 0 0] 43)) := by rw [hW1]; exact heap_alloc_new _ _
  have hz1 : w.heap.size < W1.heap.size := (Array.getElem?_eq_some_iff.1 HR1.out).1
  rw [← hW1]
  clear hW1
  go_wp2_with (go_at_call 127; refine (CM.out _ HS1.out.l).mono ?_; rintro e w2 ⟨rfl, hk⟩; have HS2 : Hid (XS w lb tb ob sb N (p + 1) w2) := HS1.out.trans (HS1.out.here.ofKp hls hk); have HR2 : Hid (w2.heap[w.heap.size]? = some (.cells #[.int .i64 0, .int .i64 0, .int .i64 0, .string ⟨#[]⟩, .string ⟨#[]⟩, .string ⟨#[]⟩, .int .i64 0, .int .i64 0, .int .i64 0, .string ⟨#[]⟩, .slice none 0 0] 43)) := (hk.2.1 w.heap.size hz1 (by omega)).trans HR1.out; obtain ⟨z0, z1, z2, z3, z4, z5, z6, z7, z8, z9, z10, z11, z12⟩ := bk11 HR2.out; clear hk)
  obtain ⟨W9, hW9⟩ : ∃ W, W = (((((((((((w2).setCell ⟨w.heap.size, 0, none⟩ (.int .i64 1)).setCell ⟨w.heap.size, 1, none⟩ (.int .i64 4)).setCell ⟨w.heap.size, 2, none⟩ (.int .i64 1)).setCell ⟨w.heap.size, 3, none⟩ (.string ⟨#[]⟩)).setCell ⟨w.heap.size, 4, none⟩ (.string ⟨#[]⟩)).setCell ⟨w.heap.size, 5, none⟩ (.string ⟨#[]⟩)).setCell ⟨w.heap.size, 6, none⟩ (.int .i64 0)).setCell ⟨w.heap.size, 7, none⟩ (.int .i64 0)).setCell ⟨w.heap.size, 8, none⟩ (.int .i64 0)).setCell ⟨w.heap.size, 9, none⟩ (.string ⟨#[]⟩)).setCell ⟨w.heap.size, 10, none⟩ (.slice none 0 0) := ⟨_, rfl⟩
  have hW8 : W9 = putL w2 w.heap.size 0 [.int .i64 1, .int .i64 4, .int .i64 1, .string ⟨#[]⟩, .string ⟨#[]⟩, .string ⟨#[]⟩, .int .i64 0, .int .i64 0, .int .i64 0, .string ⟨#[]⟩, .slice none 0 0] := hW9
  have HZ9 : Hid (W9.heap[w.heap.size]? = some (.cells #[.int .i64 1, .int .i64 4, .int .i64 1, .string ⟨#[]⟩, .string ⟨#[]⟩, .string ⟨#[]⟩, .int .i64 0, .int .i64 0, .int .i64 0, .string ⟨#[]⟩, .slice none 0 0] 43)) := by rw [hW8]; exact putL_same HR2.out _ rfl
  have HS9 : Hid (XS w lb tb ob sb N (p + 1) W9) := by rw [hW8]; exact HS2.out.put (Nat.le_refl _) hll hsl _
  rw [← hW9]
  clear hW9 hW8
  obtain ⟨y0', y1', y2', y3', y4', y5', y6', y7', y8', y9', y10', _, _⟩ := bk11 HZ9.out
  exact bodyPost_ret (v := .agg #[.int .i64 1, .int .i64 4, .int .i64 1, .string ⟨#[]⟩, .string ⟨#[]⟩, .string ⟨#[]⟩, .int .i64 0, .int .i64 0, .int .i64 0, .string ⟨#[]⟩, .slice none 0 0]) (by simp [results, Tryz.results101, go_sem, y0', y1', y2', y3', y4', y5', y6', y7', y8', y9', y10']) rfl ⟨[.int .i64 1, .int .i64 4, .int .i64 1, .string ⟨#[]⟩, .string ⟨#[]⟩, .string ⟨#[]⟩, .int .i64 0, .int .i64 0, .int .i64 0, .string ⟨#[]⟩, .slice none 0 0], ⟨none, 0, rfl, ⟨by decide, by decide, by decide⟩, Nat.le_refl _, by decide, fun h => absurd h (by decide)⟩, rfl, HS9.out⟩
end Go.Proofs.YtcbpjgnbdpfiiaaGreatDoor
set_option linter.unusedVariables false
namespace Go.Proofs.YtcbpjgnbdpfiiaaGreatDoor
set_option maxRecDepth 100000
open Go.RowKit

/-- a parser that is made anew -/
theorem PaS.new {w : World} {b c : Nat} {T : List Tok} (hb : b < w.heap.size) (ht : ToksL w b T) : PaS (w.alloc (.cells #[.slice (some ⟨b, 0, none⟩) T.length c, .int .i64 0, .int .i64 0, .int .i64 0] 70)) w.heap.size b c T ⟨0, 0, 0⟩ :=
  ⟨by simp, by simp, by simp, by simp, by simp, by simp, by simp, by simp, by simp; omega, by omega, ht.grow ((GrowA.refl (w.heap.size) w).alloc _) hb (by omega)⟩
theorem ToksL.below {w w' : World} {b : Nat} {L : List Tok} (h : ToksL w b L) (hb : Below w.heap.size w w') (hlt : b < w.heap.size) : ToksL w' b L := fun k hk => by
  obtain ⟨h1, h2, h3⟩ := h k hk
  exact ⟨(hb.cell (p := ⟨b, k * 3, none⟩) hlt).trans h1, (hb.cell (p := ⟨b, k * 3 + 1, none⟩) hlt).trans h2, (hb.cell (p := ⟨b, k * 3 + 2, none⟩) hlt).trans h3⟩
/-- the tables lie there -/
def Tab3 (w : World) : Prop := OpTab w ∧ KtTab w ∧ AxTab w
theorem Tab3.below {w w' : World} (h : Tab3 w) (hb : Below w.heap.size w w') : Tab3 w' := ⟨h.1.below hb, h.2.1.below hb, h.2.2.below hb⟩
theorem Tab3.rtab {w : World} {pb n : Nat} (h : Tab3 w) (hn : 4 < n ∧ 6 < n ∧ 5 < n) (hp : n ≤ pb) : RTab w pb := ⟨h.1, h.2.1, h.2.2, by omega, by omega, by omega⟩
theorem Tab3.lt {w : World} (h : Tab3 w) : 4 < w.heap.size ∧ 6 < w.heap.size ∧ 5 < w.heap.size := by
  obtain ⟨⟨t1, f1, h1⟩, ⟨t2, f2, h2⟩, ⟨t3, f3, h3⟩⟩ := h
  exact ⟨(Array.getElem?_eq_some_iff.1 h1).1, (Array.getElem?_eq_some_iff.1 h2).1, (Array.getElem?_eq_some_iff.1 h3).1⟩
/-- tokens that CheckToken lets be -/
def GoodT (T : List Tok) : Prop := ∀ t ∈ T, tokF t.kind t.s t.n = 0 ∧ t.s.size ≤ 4000
set_option maxHeartbeats 3200000 in
theorem parse_good (T : List Tok) (p : Ph) (o : Nat) (b c : Nat) (hT : T.length ≤ 200) (hG : GoodT T) (hrun : ∀ pb b c, RunT pb b c T 21 #[.pointer (some ⟨pb, 0, none⟩)] ⟨0, 0, 0⟩ ⟨T.length, o, 0⟩ p) (w : World) (hb : b < w.heap.size) (ht : ToksL w b T) (hot : Tab3 w) (hTb : Tabs w) (hM : MarkTab w) (hg : 0 < w.heap.size) :
    Calls Tryz.prog 9 #[.slice (some ⟨b, 0, none⟩) T.length c] w fun e w' => ∃ v, Tre w' w.heap.size p v ∧ e = .returned (.tuple #[.agg v.toArray, .int .i64 0, .int .i64 0]) ∧ Below w.heap.size w w' := by
  have CK : Hid (∀ W kd s n, Below w.heap.size w W → tokF kd s n = 0 → s.size ≤ 4000 → Calls Tryz.prog 20 #[.agg #[.int .i64 kd, .string s, .int .i64 n]] W fun e w' => e = .returned (.int .i64 0) ∧ Below W.heap.size W w') := fun W kd s n hW ht hs => (checkToken_any kd n s W (by unfold maxLen; omega) (Utf8Tabs_below hTb hW) (hM.below hW hg) (Nat.lt_of_lt_of_le hg hW.size)).mono fun e w' ⟨k1, k2⟩ => ⟨by rw [k1, ht], k2⟩
  have HTK : Hid (ToksL w b T) := ht
  have HOT : Hid (Tab3 w) := hot
  have HGD : Hid (∀ j (h : j < T.length), ∃ kd s n, T[j] = ⟨kd, s, n⟩ ∧ tokF kd s n = 0 ∧ s.size ≤ 4000) := fun j h => ⟨T[j].kind, T[j].s, T[j].n, rfl, (hG _ (List.getElem_mem h)).1, (hG _ (List.getElem_mem h)).2⟩
  have hol := hot.lt
  have HRR := HidOf hrun
  have hl200 : ¬ ((200 : Int) < (T.length : Int)) := by omega
  clear ht hot hTb hM hg hrun hG
  go_enter Tryz.func9, Tryz.ntmps9
  go_wp2
  obtain ⟨W1, hW1⟩ : ∃ W, W = w.alloc (.cells #[.int .i64 0, .int .i64 0, .int .i64 0, .string ⟨#[]⟩, .string ⟨#[]⟩, .int .i64 0, .int .i64 0, .int .i64 0, .string ⟨#[]⟩, .slice none 0 0, .slice none 0 0] 38) := ⟨_, rfl⟩
  have HB1 : Hid (Below w.heap.size w W1) := by rw [hW1]; exact (Below.refl _ _).alloc (Nat.le_refl _) _
  have HR1 : Hid (PhB W1 w.heap.size #[.int .i64 0, .int .i64 0, .int .i64 0, .string ⟨#[]⟩, .string ⟨#[]⟩, .int .i64 0, .int .i64 0, .int .i64 0, .string ⟨#[]⟩, .slice none 0 0, .slice none 0 0]) := by rw [hW1]; exact PhB.new w _
  rw [← hW1]
  obtain ⟨r, hr⟩ : ∃ r, r = w.heap.size := ⟨_, rfl⟩
  have HRW : Hid (r = w.heap.size) := hr
  rw [← hr] at HR1 ⊢
  clear hW1 hr
  go_loopw [16] (fun i wr => ∃ j : Nat, j ≤ T.length ∧ i = .int .i64 j ∧ Below W1.heap.size W1 wr) (fun i _ => T.length - (intOf i).toNat)
  case atStart => exact ⟨0, Nat.zero_le _, rfl, Below.refl _ _⟩
  case round =>
    obtain ⟨j, hj, rfl, hbw⟩ := hrel
    have HBW : Hid (Below W1.heap.size W1 wr) := hbw
    have HBA : Hid (Below w.heap.size w wr) := HB1.out.trans (hbw.mono HB1.out.size)
    clear hbw
    by_cases hlt : j < T.length
    · obtain ⟨x0, x1, x2⟩ := (HTK.out.below HBA.out hb) j hlt
      obtain ⟨kd, s, n, e1, e2, e3⟩ := HGD.out j hlt
      rw [e1] at x0 x1 x2
      simp only at x0 x1 x2
      have hji : (j : Int) < (T.length : Int) := by omega
      have hbr : b < wr.heap.size := Nat.lt_of_lt_of_le hb HBA.out.size
      have C3 : Hid (∀ o, Calls Tryz.prog 20 #[.agg #[.int .i64 kd, .string s, .int .i64 n]] (wr.alloc o) fun e w' => e = .returned (.int .i64 0) ∧ Below W1.heap.size W1 w') := fun o => (CK.out (wr.alloc o) kd s n (HBA.out.alloc HBA.out.size o) e2 e3).mono fun e w' ⟨k1, k2⟩ => ⟨k1, (HBW.out.alloc HBW.out.size o).trans (k2.mono (by have := HBW.out.size; simp; omega))⟩
      clear e1 e2 e3
      go_wp2_with (first
        | (go_at_call 20; refine (C3.out _).mono ?_; rintro e w3 ⟨rfl, hb3⟩; have HB3 : Hid (Below W1.heap.size W1 w3) := hb3; clear hb3))
      go_roundw
      case rel => exact ⟨j + 1, by omega, by go_num, HB3.out⟩
      case measure => simp [intOf]; omega
    · have hji : ¬ ((j : Int) < (T.length : Int)) := by omega
      go_upto_region 11 with fail
      obtain ⟨WP, hWP⟩ : ∃ W, W = wr.alloc (.cells #[.slice (some ⟨b, 0, none⟩) T.length c, .int .i64 0, .int .i64 0, .int .i64 0] 70) := ⟨_, rfl⟩
      obtain ⟨pb, hpb⟩ : ∃ p, p = wr.heap.size := ⟨_, rfl⟩
      have hrp : r ≠ pb := by have k1 := HRW.out; have k2 := (HR1.out.below HBW.out).lt; omega
      have hrl0 : r < pb := by rw [hpb]; exact (HR1.out.below HBW.out).lt
      have hrb : r ≠ b := by have k1 := HRW.out; omega
      have hwp : w.heap.size ≤ pb := by rw [hpb]; exact HBA.out.size
      have HP1 : Hid (PaS WP pb b c T ⟨0, 0, 0⟩) := by rw [hWP, hpb]; exact PaS.new (Nat.lt_of_lt_of_le hb HBA.out.size) (HTK.out.below HBA.out hb)
      have HO1 : Hid (RTab WP pb) := by rw [hWP]; exact ((HOT.out.below HBA.out).below ((Below.refl _ _).alloc (Nat.le_refl _) _)).rtab hol hwp
      have HR2 : Hid (PhB WP r #[.int .i64 0, .int .i64 0, .int .i64 0, .string ⟨#[]⟩, .string ⟨#[]⟩, .int .i64 0, .int .i64 0, .int .i64 0, .string ⟨#[]⟩, .slice none 0 0, .slice none 0 0]) := by rw [hWP]; exact (HR1.out.below HBW.out).allocI _
      have HBP : Hid (Below w.heap.size w WP) := by rw [hWP]; exact HBA.out.alloc HBA.out.size _
      have hpz : pb ≤ WP.heap.size := Nat.le_of_lt HP1.out.pl
      rw [← hWP, ← hpb]
      clear hWP hpb HR1 HBW HBA
      have CL : Hid (Calls Tryz.prog 21 #[.pointer (some ⟨pb, 0, none⟩)] WP fun e w' => ∃ v, Tre w' WP.heap.size p v ∧ e = .returned (.agg v.toArray) ∧ PaS w' pb b c T ⟨T.length, o, 0⟩ ∧ GrowA pb WP w') := HRR.out pb b c WP HP1.out HO1.out
      go_wp2_with (first
        | (go_at_call 21; refine CL.out.mono ?_; rintro e w2 ⟨v, hv, rfl, hp, hg⟩; obtain ⟨k0_1, k1_1, k2_1, k5_1, k6_1, k7_1, s3_1, s4_1, s8_1, a9_1, a10_1, l9_1, c9_1, l10_1, c10_1, rfl⟩ := hv.form; have HV2 : Hid (Tre w2 WP.heap.size p [.int .i64 k0_1, .int .i64 k1_1, .int .i64 k2_1, .string s3_1, .string s4_1, .int .i64 k5_1, .int .i64 k6_1, .int .i64 k7_1, .string s8_1, .slice a9_1 l9_1 c9_1, .slice a10_1 l10_1 c10_1]) := hv; have HB2 : Hid (Below w.heap.size w w2) := (HBP.out.trans ((hg.low hpz).mono hwp)); have hx1 := hp.a; have hx3 := hp.e; have hpl := hp.pl; obtain ⟨⟨y0, y1, y2, y3, y4, y5, y6, y7, y8, y9, y10⟩, z0, z1, z2, z3, z4, z5, z6, z7, z8, z9, z10⟩ := (HR2.out.grow hg hrp).cells; have hrl := (HR2.out.grow hg hrp).lt; clear hv hp hg))
      refine bodyPost_ret (v := .tuple #[.agg #[.int .i64 k0_1, .int .i64 k1_1, .int .i64 k2_1, .string s3_1, .string s4_1, .int .i64 k5_1, .int .i64 k6_1, .int .i64 k7_1, .string s8_1, .slice a9_1 l9_1 c9_1, .slice a10_1 l10_1 c10_1], .int .i64 0, .int .i64 0]) (by simp [results, Tryz.results9, go_sem, hrl, y0, y1, y2, y3, y4, y5, y6, y7, y8, y9, y10]) rfl ⟨[.int .i64 k0_1, .int .i64 k1_1, .int .i64 k2_1, .string s3_1, .string s4_1, .int .i64 k5_1, .int .i64 k6_1, .int .i64 k7_1, .string s8_1, .slice a9_1 l9_1 c9_1, .slice a10_1 l10_1 c10_1], ?_, rfl, ?_⟩
      · refine Tre.mono (lo := WP.heap.size) ?_ (Nat.le_trans hwp hpz)
        (repeat (first | with_reducible refine Tre.allocI ?_ _ | with_reducible refine Tre.setR ?_ (Nat.lt_of_lt_of_le hrl0 hpz) _ _ | with_reducible exact HV2.out))
      · (first | (with_reducible refine Below.alloc ?_ (by have := HB2.out.size; simp; omega) _) | skip)
        repeat with_reducible refine below_setA ?_ (Nat.le_of_eq HRW.out.symm) _ _
        with_reducible exact HB2.out
end Go.Proofs.YtcbpjgnbdpfiiaaGreatDoor
set_option linter.unusedVariables false
namespace Go.Proofs.YtcbpjgnbdpfiiaaGreatDoor
set_option maxRecDepth 100000
open Go.RowKit

def tkA (T : List Tok) (i : Nat) : Tok := T.getD i tok0
theorem see0 {T : List Tok} {a o k : Nat} : seeM T ⟨a, o, 0⟩ k = tkA T (a + k) := by
  unfold seeM tkA
  split
  · rename_i h
    rcases h with h | h
    · exact absurd rfl h
    · rw [List.getD_eq_getElem?_getD, List.getElem?_eq_none h]; rfl
  · rfl
theorem ent0 {T : List Tok} {a o : Nat} {g : Bool} (h : o < 30) : enterM T ⟨a, o, 0⟩ g = ⟨a, o + 1, 0⟩ := by
  unfold enterM
  simp only
  rw [if_neg (by omega)]
theorem want0 {T : List Tok} {a o : Nat} {t : Tok} (h : eqT (tkA T a) t = true) : wantM T ⟨a, o, 0⟩ t = ⟨a + 1, o, 0⟩ := by
  unfold wantM skipM
  rw [show seeM T ⟨a, o, 0⟩ 0 = tkA T a from see0]
  rw [if_pos h]
  rfl
/-- a single stands from place a to place z, where o levels are open -/
def Sg (T : List Tok) (o a z : Nat) (p : Ph) : Prop := ∀ pb b c, RunT pb b c T 73 #[.pointer (some ⟨pb, 0, none⟩)] ⟨a, o, 0⟩ ⟨z, o, 0⟩ p
/-- a list -/
def Ls (T : List Tok) (o a z : Nat) (p : Ph) : Prop := ∀ pb b c, RunT pb b c T 21 #[.pointer (some ⟨pb, 0, none⟩)] ⟨a, o, 0⟩ ⟨z, o, 0⟩ p
/-- what stands where a step may stand -/
def Ns (T : List Tok) (o a z : Nat) (p : Ph) : Prop := ∀ pb b c, RunT pb b c T 166 #[.pointer (some ⟨pb, 0, none⟩)] ⟨a, o, 0⟩ ⟨z, o, 0⟩ p
def Bs (T : List Tok) (o a z : Nat) (p : Ph) : Prop := ∀ pb b c, RunT pb b c T 162 #[.pointer (some ⟨pb, 0, none⟩)] ⟨a, o, 0⟩ ⟨z, o, 0⟩ p
/-- a token behind which what stands is at its end -/
def stopT (u : Tok) : Bool := !(eqT u ⟨5, ⟨#[91]⟩, 0⟩) && (!(eqT u ⟨5, ⟨#[47]⟩, 0⟩) && (!(eqT u ⟨5, ⟨#[47, 47]⟩, 0⟩) && (!(u.kind == 1 || u.kind == 5) || !(decide (0 ≤ opOf u.s)))))
theorem stop_parts {u : Tok} (h : stopT u = true) : eqT u ⟨5, ⟨#[91]⟩, 0⟩ = false ∧ eqT u ⟨5, ⟨#[47]⟩, 0⟩ = false ∧ eqT u ⟨5, ⟨#[47, 47]⟩, 0⟩ = false ∧ ∀ bd : Int, opNext u bd = false := by
  unfold stopT at h
  simp only [Bool.and_eq_true, Bool.not_eq_true', Bool.or_eq_true] at h
  obtain ⟨h1, h2, h3, h4⟩ := h
  refine ⟨h1, h2, h3, fun bd => ?_⟩
  unfold opNext
  rcases h4 with h4 | h4
  · rw [h4]; rfl
  · rw [h4]; simp
/-- a token with which no operator, no path and no condition begins -/
def headT (u v : Tok) : Bool := !(eqT u ⟨5, ⟨#[47]⟩, 0⟩) && (!(eqT u ⟨5, ⟨#[47, 47]⟩, 0⟩) && (!(eqT u ⟨5, ⟨#[45]⟩, 0⟩) && (!(eqT u ⟨1, ⟨#[105, 102]⟩, 0⟩) && !(v.kind == 4))))
theorem bin_up {pb b c : Nat} {T : List Tok} {st s1 : Pst} {p : Ph} (hT : T.length ≤ 200) (hat : st.at' ≤ 300) (hat1 : s1.at' ≤ 300) (hn : ∀ bd : Int, opNext (seeM T s1 0) bd = false) (h : RunT pb b c T 141 #[.pointer (some ⟨pb, 0, none⟩)] st s1 p) :
    ∀ m bd : Nat, bd + m = 8 → RunT pb b c T 121 #[.pointer (some ⟨pb, 0, none⟩), .int .i64 (bd : Int)] st s1 p := by
  intro m
  induction m with
  | zero =>
    intro bd hb
    obtain rfl : bd = 8 := by omega
    exact binary_top hT hat h
  | succ m ih => intro bd hb; exact binary_none hT hat (by omega) hat1 (hn _) (ih (bd + 1) (by omega))
/-- a single of one bare step -/
theorem sg_prim {T : List Tok} {o a z : Nat} {p : Ph} (hT : T.length ≤ 200) (ha : a ≤ 250) (hz : z ≤ 250) (ho : o + 2 ≤ 30) (hh : headT (tkA T a) (tkA T (a + 1)) = true) (hs : stopT (tkA T z) = true) (h : Bs T (o + 2) a z p) : Sg T o a z p := by
  intro pb b c
  unfold headT at hh
  simp only [Bool.and_eq_true, Bool.not_eq_true'] at hh
  obtain ⟨h1, h2, h3, h4, h5⟩ := hh
  obtain ⟨s1, s2, s3, s4⟩ := stop_parts hs
  have hstep : RunT pb b c T 159 #[.pointer (some ⟨pb, 0, none⟩)] ⟨a, o + 1, 0⟩ ⟨z, o + 1, 0⟩ p :=
    step_plain (st := ⟨a, o + 1, 0⟩) (s0 := ⟨a, o + 2, 0⟩) (s1 := ⟨z, o + 2, 0⟩) hT (by simp only; omega) (by simp only; omega) (by simp only; omega) (by simp only; omega) (ent0 (by omega)) (u1k := (tkA T z).kind) (u1s := (tkA T z).s) (u1n := (tkA T z).n) see0 s1 (h pb b c)
  have hpath : RunT pb b c T 154 #[.pointer (some ⟨pb, 0, none⟩)] ⟨a, o + 1, 0⟩ ⟨z, o + 1, 0⟩ p :=
    path_step (st := ⟨a, o + 1, 0⟩) (uk := (tkA T a).kind) (us := (tkA T a).s) (un := (tkA T a).n) hT (by simp only; omega) see0 h2 h1 (by simp only; omega) (by rw [see0]; exact s2) (by rw [see0]; exact s3) hstep
  have hmin : RunT pb b c T 141 #[.pointer (some ⟨pb, 0, none⟩)] ⟨a, o + 1, 0⟩ ⟨z, o + 1, 0⟩ p :=
    minus_none (st := ⟨a, o + 1, 0⟩) (uk := (tkA T a).kind) (us := (tkA T a).s) (un := (tkA T a).n) hT (by simp only; omega) see0 h3 hpath
  have hbin := bin_up (st := ⟨a, o + 1, 0⟩) (s1 := ⟨z, o + 1, 0⟩) hT (by simp only; omega) (by simp only; omega) (fun bd => by rw [see0]; exact s4 bd) hmin 8 0 rfl
  exact single_bin (st := ⟨a, o, 0⟩) (s0 := ⟨a, o + 1, 0⟩) (s1 := ⟨z, o + 1, 0⟩) (uk := (tkA T a).kind) (us := (tkA T a).s) (un := (tkA T a).n) (vk := (tkA T (a + 1)).kind) (vs := (tkA T (a + 1)).s) (vn := (tkA T (a + 1)).n) hT (by simp only; omega) (by simp only; omega) (by simp only; omega) (by simp only; omega) (ent0 (by omega)) see0 see0 h5 h4 hbin
/-- a list of one single -/
theorem ls_one {T : List Tok} {o a z : Nat} {p : Ph} (hT : T.length ≤ 200) (ha : a ≤ 250) (hz : z ≤ 250) (ho : o + 1 ≤ 30) (hs : eqT (tkA T z) ⟨5, ⟨#[44]⟩, 0⟩ = false) (h : Sg T (o + 1) a z p) : Ls T o a z p := by
  intro pb b c
  have h1 : RunL pb b c T 45 ⟨a, o + 1, 0⟩ ⟨z, o + 1, 0⟩ 1 (fun _ => p) :=
    singles_is (st := ⟨a, o + 1, 0⟩) (n := 1) (A := fun _ => p) (ST := fun _ => ⟨z, o + 1, 0⟩) hT (by decide) (by decide) (fun k hk => by simp only; omega) (h pb b c) (fun k h1 h2 => absurd h2 (by omega)) (fun k h1 h2 => absurd h2 (by omega)) (by rw [see0]; exact hs)
  exact list_one (st := ⟨a, o, 0⟩) (s0 := ⟨a, o + 1, 0⟩) (s1 := ⟨z, o + 1, 0⟩) (A := fun _ => p) hT (by simp only; omega) (by simp only; omega) (by simp only; omega) (ent0 (by omega)) h1
/-- a bare step that is none, by a token that is no word -/
theorem bs_other {T : List Tok} {o a z : Nat} {p : Ph} (hT : T.length ≤ 200) (ha : a ≤ 250) (h1 : ((tkA T a).kind == 1) = false) (h2 : eqT (tkA T a) ⟨5, ⟨#[64]⟩, 0⟩ = false) (h3 : eqT (tkA T a) ⟨5, ⟨#[46, 46]⟩, 0⟩ = false) (h4 : childB (tkA T a) (tkA T (a + 1)) (tkA T (a + 2)) = false) (h : Ns T o a z p) : Bs T o a z p := by
  intro pb b c
  exact bareStep_other (st := ⟨a, o, 0⟩) (uk := (tkA T a).kind) (us := (tkA T a).s) (un := (tkA T a).n) hT (by simp only; omega) see0 h1 h2 h3 (by rw [see0, see0, see0]; exact h4) (h pb b c)
theorem bs_word {T : List Tok} {o a z : Nat} {p : Ph} (hT : T.length ≤ 200) (ha : a ≤ 250) (h1 : (tkA T a).kind = 1) (hx : eqT (tkA T (a + 1)) ⟨5, ⟨#[58, 58]⟩, 0⟩ = false) (h2 : eqT (tkA T a) ⟨5, ⟨#[64]⟩, 0⟩ = false) (h3 : eqT (tkA T a) ⟨5, ⟨#[46, 46]⟩, 0⟩ = false) (h4 : childB (tkA T a) (tkA T (a + 1)) (tkA T (a + 2)) = false) (h : Ns T o a z p) : Bs T o a z p := by
  intro pb b c
  have e : tkA T a = ⟨1, (tkA T a).s, (tkA T a).n⟩ := by rw [← h1]
  exact bareStep_word (st := ⟨a, o, 0⟩) (us := (tkA T a).s) (un := (tkA T a).n) (u1k := (tkA T (a + 1)).kind) (u1s := (tkA T (a + 1)).s) (u1n := (tkA T (a + 1)).n) hT (by simp only; omega) (see0.trans e) see0 hx (by rw [← e]; exact h2) (by rw [← e]; exact h3) (by rw [see0, see0, see0]; exact h4) (h pb b c)
def litN (n : Int) : Ph := ph0 1 ⟨2, n, ⟨#[]⟩⟩ ⟨#[]⟩ 0 0 0 ⟨#[]⟩
/-- a number, as a single -/
theorem sg_num {T : List Tok} {o a : Nat} {n : Int} (hT : T.length ≤ 200) (ha : a ≤ 249) (ho : o + 2 ≤ 30) (ht : tkA T a = ⟨2, ⟨#[]⟩, n⟩) (hv : ((tkA T (a + 1)).kind == 4) = false) (hs : stopT (tkA T (a + 1)) = true) : Sg T o a (a + 1) (litN n) := by
  have hh : ∀ k s, eqT (tkA T a) ⟨k, s, 0⟩ = (decide ((2 : Int) = k) && decide ((⟨#[]⟩ : ByteArray) = s) && decide (n = 0)) := fun k s => by rw [ht]; rfl
  refine sg_prim hT (by omega) (by omega) ho ?_ hs (bs_other hT (by omega) ?_ ?_ ?_ ?_ ?_)
  · unfold headT
    rw [hh, hh, hh, hh, hv]
    simp
  · rw [ht]; rfl
  · rw [hh]; simp
  · rw [hh]; simp
  · unfold childB
    rw [hh, ht]
    simp
  · intro pb b c
    exact noStep_num (st := ⟨a, o + 2, 0⟩) (us := ⟨#[]⟩) (un := n) hT (by simp only; omega) (see0.trans ht)
end Go.Proofs.YtcbpjgnbdpfiiaaGreatDoor
set_option linter.unusedVariables false
namespace Go.Proofs.YtcbpjgnbdpfiiaaGreatDoor
set_option maxRecDepth 100000
open Go.RowKit

theorem eqT_kind {k k' n n' : Int} {s s' : ByteArray} (h : k ≠ k') : eqT ⟨k, s, n⟩ ⟨k', s', n'⟩ = false := by
  unfold eqT
  rw [decide_eq_false h]; rfl
theorem eqT_self {u : Tok} : eqT u u = true := by simp [eqT]
/-- the same search, by the lists of bytes themselves: it can be decided -/
def goG (N : Nat → ByteArray) (V : Nat → Int) (e : Int) (s : ByteArray) : Nat → Nat → Int
  | 0, _ => e
  | n + 1, k => if ((N k).data.toList == s.data.toList) = true then V k else goG N V e s n (k + 1)
theorem goG_eq {N : Nat → ByteArray} {V : Nat → Int} {e : Int} {s : ByteArray} : ∀ (n k : Nat), goF N V e s n k = goG N V e s n k
  | 0, _ => rfl
  | n + 1, k => by simp only [goF, goG, ByteArray.toList_eq, goG_eq n (k + 1)]
def stopG (u : Tok) : Bool := !(eqT u ⟨5, ⟨#[91]⟩, 0⟩) && (!(eqT u ⟨5, ⟨#[47]⟩, 0⟩) && (!(eqT u ⟨5, ⟨#[47, 47]⟩, 0⟩) && (!(u.kind == 1 || u.kind == 5) || !(decide (0 ≤ goG opN opB (-1) u.s 21 0)))))
theorem stopG_eq (u : Tok) : stopT u = stopG u := by unfold stopT stopG opOf; rw [goG_eq]
def callG (s : ByteArray) : Bool := !(eqT ⟨1, s, 0⟩ ⟨1, ⟨#[101, 108, 101, 109, 101, 110, 116]⟩, 0⟩) && (!(eqT ⟨1, s, 0⟩ ⟨1, ⟨#[97, 116, 116, 114, 105, 98, 117, 116, 101]⟩, 0⟩) && (!(eqT ⟨1, s, 0⟩ ⟨1, ⟨#[116, 101, 120, 116]⟩, 0⟩) && (goG ktN (fun k => (k : Int)) 0 s 4 0 == 0)))
/-- a name that calls: no constructor, no test of a kind -/
def callN (s : ByteArray) : Bool := !(eqT ⟨1, s, 0⟩ ⟨1, ⟨#[101, 108, 101, 109, 101, 110, 116]⟩, 0⟩) && (!(eqT ⟨1, s, 0⟩ ⟨1, ⟨#[97, 116, 116, 114, 105, 98, 117, 116, 101]⟩, 0⟩) && (!(eqT ⟨1, s, 0⟩ ⟨1, ⟨#[116, 101, 120, 116]⟩, 0⟩) && (ktOf s == 0)))
theorem callG_eq (s : ByteArray) : callN s = callG s := by unfold callN callG ktOf; rw [goG_eq]
theorem bs_call {T : List Tok} {o a z : Nat} {p : Ph} {nm : ByteArray} (hT : T.length ≤ 200) (ha : a ≤ 240) (h0 : tkA T a = ⟨1, nm, 0⟩) (h1 : tkA T (a + 1) = ⟨5, ⟨#[40]⟩, 0⟩) (hn : callN nm = true) (h : ∀ pb b c, RunT pb b c T 172 #[.pointer (some ⟨pb, 0, none⟩)] ⟨a, o, 0⟩ ⟨z, o, 0⟩ p) : Bs T o a z p := by
  unfold callN at hn
  simp only [Bool.and_eq_true, Bool.not_eq_true'] at hn
  obtain ⟨n1, n2, n3, n4⟩ := hn
  have hm : mkBeg (tkA T a) (tkA T (a + 1)) (tkA T (a + 2)) = false := by
    unfold mkBeg
    rw [h0, n1, n2, n3]
    rfl
  have hc : childB (tkA T a) (tkA T (a + 1)) (tkA T (a + 2)) = false := by
    unfold childB
    rw [hm, h0, h1, eqT_kind (by decide), n4, eqT_self]
    simp
  refine bs_word hT (by omega) (by rw [h0]) (by rw [h1]; decide) (by rw [h0]; exact eqT_kind (by decide)) (by rw [h0]; exact eqT_kind (by decide)) hc ?_
  intro pb b c
  exact noStep_call (st := ⟨a, o, 0⟩) (us := nm) (un := 0) hT (by simp only; omega) (see0.trans h0) (see0.trans h1) (eqT_kind (by decide)) (eqT_kind (by decide)) eqT_self (by rw [see0, see0, see0]; exact hm) (h pb b c)
theorem head_word {s : ByteArray} {v : Tok} (h1 : eqT ⟨1, s, 0⟩ ⟨1, ⟨#[105, 102]⟩, 0⟩ = false) (h2 : (v.kind == 4) = false) : headT ⟨1, s, 0⟩ v = true := by
  unfold headT
  rw [eqT_kind (by decide), eqT_kind (by decide), eqT_kind (by decide), h1, h2]
  rfl
/-- a call of nothing -/
theorem sg_call0 {T : List Tok} {o a : Nat} {nm : ByteArray} (hT : T.length ≤ 200) (ha : a ≤ 240) (ho : o + 2 ≤ 30) (h0 : tkA T a = ⟨1, nm, 0⟩) (h1 : tkA T (a + 1) = ⟨5, ⟨#[40]⟩, 0⟩) (h2 : tkA T (a + 2) = ⟨5, ⟨#[41]⟩, 0⟩) (hn : callN nm = true) (hi : eqT ⟨1, nm, 0⟩ ⟨1, ⟨#[105, 102]⟩, 0⟩ = false) (hz : nm.size ≤ 4000) (hs : stopT (tkA T (a + 3)) = true) : Sg T o a (a + 3) (ph0 8 ⟨0, 0, ⟨#[]⟩⟩ nm 0 0 0 ⟨#[]⟩) := by
  refine sg_prim hT (by omega) (by omega) ho (by rw [h0, h1]; exact head_word hi (by decide)) hs (bs_call hT ha h0 h1 hn fun pb b c => ?_)
  exact call_none (st := ⟨a, o + 2, 0⟩) (us := nm) (un := 0) (s2 := ⟨a + 2, o + 2, 0⟩) hT (by simp only; omega) (see0.trans h0) hz (by simp only; omega) (want0 (by rw [h1]; exact eqT_self)) (by simp only; omega) (by rw [see0]; rw [h2]; exact eqT_self)
/-- a call of numbers -/
theorem sg_calln {T : List Tok} {o a n : Nat} {nm : ByteArray} (hT : T.length ≤ 200) (ha : a + 2 * n ≤ 200) (hn0 : 1 ≤ n) (ho : o + 4 ≤ 30) (h0 : tkA T a = ⟨1, nm, 0⟩) (h1 : tkA T (a + 1) = ⟨5, ⟨#[40]⟩, 0⟩) (hl : ∀ k, k < n → tkA T (a + 2 + 2 * k) = ⟨2, ⟨#[]⟩, 1⟩) (hc : ∀ k, k + 1 < n → tkA T (a + 3 + 2 * k) = ⟨5, ⟨#[44]⟩, 0⟩) (h2 : tkA T (a + 1 + 2 * n) = ⟨5, ⟨#[41]⟩, 0⟩) (hn : callN nm = true) (hi : eqT ⟨1, nm, 0⟩ ⟨1, ⟨#[105, 102]⟩, 0⟩ = false) (hz : nm.size ≤ 4000) (hs : stopT (tkA T (a + 2 + 2 * n)) = true) : Sg T o a (a + 2 + 2 * n) (phN 8 ⟨0, 0, ⟨#[]⟩⟩ nm 0 0 0 ⟨#[]⟩ n (fun _ => litN 1)) := by
  refine sg_prim hT (by omega) (by omega) (by omega) (by rw [h0, h1]; exact head_word hi (by decide)) hs (bs_call hT (by omega) h0 h1 hn fun pb b c => ?_)
  have hone : ∀ k, k < n → Sg T (o + 2) (a + 2 + 2 * k) (a + 3 + 2 * k) (litN 1) := fun k hk => by
    have e : a + 3 + 2 * k = a + 2 + 2 * k + 1 := by omega
    rw [e]
    have ev : tkA T (a + 2 + 2 * k + 1) = ⟨5, ⟨#[44]⟩, 0⟩ ∨ tkA T (a + 2 + 2 * k + 1) = ⟨5, ⟨#[41]⟩, 0⟩ := by
      by_cases hq : k + 1 < n
      · exact .inl (by rw [← e]; exact hc k hq)
      · exact .inr (by rw [show a + 2 + 2 * k + 1 = a + 1 + 2 * n by omega]; exact h2)
    refine sg_num hT (by omega) (by omega) (hl k hk) ?_ ?_
    · rcases ev with ev | ev <;> rw [ev] <;> decide
    · rcases ev with ev | ev <;> rw [ev, stopG_eq] <;> decide
  have hsg : RunL pb b c T 45 ⟨a + 2, o + 2, 0⟩ ⟨a + 1 + 2 * n, o + 2, 0⟩ n (fun _ => litN 1) :=
    singles_is (st := ⟨a + 2, o + 2, 0⟩) (n := n) (A := fun _ => litN 1) (ST := fun k => ⟨a + 1 + 2 * k, o + 2, 0⟩) hT hn0 (by omega) (fun k hk => by simp only; omega)
      (by have := hone 0 (by omega) pb b c; simpa using this)
      (fun k k1 k2 => by rw [see0]; rw [show a + 1 + 2 * k + 0 = a + 3 + 2 * (k - 1) by omega, hc (k - 1) (by omega)]; exact eqT_self)
      (fun k k1 k2 => by
        have := hone k k2 pb b c
        simp only
        rw [show a + 1 + 2 * k + 1 = a + 2 + 2 * k by omega, show a + 1 + 2 * (k + 1) = a + 3 + 2 * k by omega]
        exact this)
      (by rw [see0]; rw [Nat.add_zero, h2]; decide)
  have e2 : a + 2 + 2 * n = a + 1 + 2 * n + 1 := by omega
  rw [e2]
  exact call_some (st := ⟨a, o + 2, 0⟩) (us := nm) (un := 0) (s2 := ⟨a + 2, o + 2, 0⟩) (s3 := ⟨a + 1 + 2 * n, o + 2, 0⟩) hT (by simp only; omega) (see0.trans h0) hz (by simp only; omega) (want0 (by rw [h1]; exact eqT_self)) (by simp only; omega) (by rw [see0]; have := hl 0 (by omega); simp only [Nat.mul_zero, Nat.add_zero] at this; rw [Nat.add_zero, this]; decide) (by simp only; omega) (want0 (by rw [h2]; exact eqT_self)) hsg
end Go.Proofs.YtcbpjgnbdpfiiaaGreatDoor
set_option linter.unusedVariables false
namespace Go.Proofs.YtcbpjgnbdpfiiaaGreatDoor
set_option maxRecDepth 100000
open Go.RowKit

/-- a call of so many ones, as tokens -/
def callK (nm : ByteArray) : Nat → List Tok
  | 0 => [⟨1, nm, 0⟩, ⟨5, ⟨#[40]⟩, 0⟩, ⟨5, ⟨#[41]⟩, 0⟩]
  | 1 => [⟨1, nm, 0⟩, ⟨5, ⟨#[40]⟩, 0⟩, ⟨2, ⟨#[]⟩, 1⟩, ⟨5, ⟨#[41]⟩, 0⟩]
  | 2 => [⟨1, nm, 0⟩, ⟨5, ⟨#[40]⟩, 0⟩, ⟨2, ⟨#[]⟩, 1⟩, ⟨5, ⟨#[44]⟩, 0⟩, ⟨2, ⟨#[]⟩, 1⟩, ⟨5, ⟨#[41]⟩, 0⟩]
  | 3 => [⟨1, nm, 0⟩, ⟨5, ⟨#[40]⟩, 0⟩, ⟨2, ⟨#[]⟩, 1⟩, ⟨5, ⟨#[44]⟩, 0⟩, ⟨2, ⟨#[]⟩, 1⟩, ⟨5, ⟨#[44]⟩, 0⟩, ⟨2, ⟨#[]⟩, 1⟩, ⟨5, ⟨#[41]⟩, 0⟩]
  | _ => [⟨1, nm, 0⟩, ⟨5, ⟨#[40]⟩, 0⟩, ⟨2, ⟨#[]⟩, 1⟩, ⟨5, ⟨#[44]⟩, 0⟩, ⟨2, ⟨#[]⟩, 1⟩, ⟨5, ⟨#[44]⟩, 0⟩, ⟨2, ⟨#[]⟩, 1⟩, ⟨5, ⟨#[44]⟩, 0⟩, ⟨2, ⟨#[]⟩, 1⟩, ⟨5, ⟨#[41]⟩, 0⟩]
/-- the phrase that it is -/
def callA : Nat → Nat → Ph
  | 0 => fun _ => .no
  | _ + 1 => fun _ => litN 1
def callP (nm : ByteArray) (n : Nat) : Ph := phN 8 ⟨0, 0, ⟨#[]⟩⟩ nm 0 0 0 ⟨#[]⟩ n (callA n)
theorem stop_end : stopT tok0 = true := by rw [stopG_eq]; decide
theorem callK_sg (nm : ByteArray) (n : Nat) (hn : n ≤ 4) (h1 : callN nm = true) (h2 : eqT ⟨1, nm, 0⟩ ⟨1, ⟨#[105, 102]⟩, 0⟩ = false) (hz : nm.size ≤ 4000) : Ls (callK nm n) 0 0 (callK nm n).length (callP nm n) := by
  match n, hn with
  | 0, _ => exact ls_one (by show 3 ≤ 200; omega) (by omega) (by show 3 ≤ 250; omega) (by omega) (by show eqT tok0 _ = false; decide) (sg_call0 (T := callK nm 0) (o := 1) (a := 0) (nm := nm) (by show 3 ≤ 200; omega) (by omega) (by omega) rfl rfl rfl h1 h2 hz stop_end)
  | 1, _ => exact ls_one (by show 4 ≤ 200; omega) (by omega) (by show 4 ≤ 250; omega) (by omega) (by show eqT tok0 _ = false; decide) (sg_calln (T := callK nm 1) (o := 1) (a := 0) (n := 1) (nm := nm) (by show 4 ≤ 200; omega) (by omega) (by omega) (by omega) rfl rfl (fun k hk => by match k, hk with
        | 0, _ => rfl) (fun k hk => by match k, hk with
        | k, hk => exact absurd hk (by omega)) rfl h1 h2 hz stop_end)
  | 2, _ => exact ls_one (by show 6 ≤ 200; omega) (by omega) (by show 6 ≤ 250; omega) (by omega) (by show eqT tok0 _ = false; decide) (sg_calln (T := callK nm 2) (o := 1) (a := 0) (n := 2) (nm := nm) (by show 6 ≤ 200; omega) (by omega) (by omega) (by omega) rfl rfl (fun k hk => by match k, hk with
        | 0, _ => rfl
        | 1, _ => rfl) (fun k hk => by match k, hk with
        | 0, _ => rfl) rfl h1 h2 hz stop_end)
  | 3, _ => exact ls_one (by show 8 ≤ 200; omega) (by omega) (by show 8 ≤ 250; omega) (by omega) (by show eqT tok0 _ = false; decide) (sg_calln (T := callK nm 3) (o := 1) (a := 0) (n := 3) (nm := nm) (by show 8 ≤ 200; omega) (by omega) (by omega) (by omega) rfl rfl (fun k hk => by match k, hk with
        | 0, _ => rfl
        | 1, _ => rfl
        | 2, _ => rfl) (fun k hk => by match k, hk with
        | 0, _ => rfl
        | 1, _ => rfl) rfl h1 h2 hz stop_end)
  | 4, _ => exact ls_one (by show 10 ≤ 200; omega) (by omega) (by show 10 ≤ 250; omega) (by omega) (by show eqT tok0 _ = false; decide) (sg_calln (T := callK nm 4) (o := 1) (a := 0) (n := 4) (nm := nm) (by show 10 ≤ 200; omega) (by omega) (by omega) (by omega) rfl rfl (fun k hk => by match k, hk with
        | 0, _ => rfl
        | 1, _ => rfl
        | 2, _ => rfl
        | 3, _ => rfl) (fun k hk => by match k, hk with
        | 0, _ => rfl
        | 1, _ => rfl
        | 2, _ => rfl) rfl h1 h2 hz stop_end)
theorem callK_good (nm : ByteArray) (n : Nat) (hn : n ≤ 4) (h : tokF 1 nm 0 = 0) (hz : nm.size ≤ 4000) : GoodT (callK nm n) := by
  have a1 : tokF 5 ⟨#[40]⟩ 0 = 0 := by decide +kernel
  have a2 : tokF 5 ⟨#[41]⟩ 0 = 0 := by decide +kernel
  have a3 : tokF 5 ⟨#[44]⟩ 0 = 0 := by decide +kernel
  have a4 : tokF 2 ⟨#[]⟩ 1 = 0 := by decide +kernel
  intro t ht
  match n, hn with
  | 0, _ =>
    simp only [callK, List.mem_cons, List.not_mem_nil, or_false] at ht
    rcases ht with rfl | rfl | rfl <;> first | exact ⟨h, hz⟩ | exact ⟨a1, by decide⟩ | exact ⟨a2, by decide⟩ | exact ⟨a3, by decide⟩ | exact ⟨a4, by decide⟩
  | 1, _ =>
    simp only [callK, List.mem_cons, List.not_mem_nil, or_false] at ht
    rcases ht with rfl | rfl | rfl | rfl <;> first | exact ⟨h, hz⟩ | exact ⟨a1, by decide⟩ | exact ⟨a2, by decide⟩ | exact ⟨a3, by decide⟩ | exact ⟨a4, by decide⟩
  | 2, _ =>
    simp only [callK, List.mem_cons, List.not_mem_nil, or_false] at ht
    rcases ht with rfl | rfl | rfl | rfl | rfl | rfl <;> first | exact ⟨h, hz⟩ | exact ⟨a1, by decide⟩ | exact ⟨a2, by decide⟩ | exact ⟨a3, by decide⟩ | exact ⟨a4, by decide⟩
  | 3, _ =>
    simp only [callK, List.mem_cons, List.not_mem_nil, or_false] at ht
    rcases ht with rfl | rfl | rfl | rfl | rfl | rfl | rfl | rfl <;> first | exact ⟨h, hz⟩ | exact ⟨a1, by decide⟩ | exact ⟨a2, by decide⟩ | exact ⟨a3, by decide⟩ | exact ⟨a4, by decide⟩
  | 4, _ =>
    simp only [callK, List.mem_cons, List.not_mem_nil, or_false] at ht
    rcases ht with rfl | rfl | rfl | rfl | rfl | rfl | rfl | rfl | rfl | rfl <;> first | exact ⟨h, hz⟩ | exact ⟨a1, by decide⟩ | exact ⟨a2, by decide⟩ | exact ⟨a3, by decide⟩ | exact ⟨a4, by decide⟩
/-- the names -/
def nmL : List ByteArray := [⟨#[99, 111, 117, 110, 116]⟩, ⟨#[99, 111, 110, 99, 97, 116]⟩, ⟨#[115, 117, 98, 115, 116, 114, 105, 110, 103]⟩, ⟨#[116, 114, 117, 101]⟩, ⟨#[100, 105, 115, 116, 105, 110, 99, 116, 45, 118, 97, 108, 117, 101, 115]⟩]
def odL : List ByteArray := [⟨#[100, 100, 111]⟩, ⟨#[110, 101, 103]⟩, ⟨#[104, 111, 108, 100, 115]⟩, ⟨#[110, 111, 116, 104, 105, 110, 103]⟩]
def odN : List Nat := [1, 1, 2, 0]
def odX : List ByteArray := [⟨#[100, 100, 111, 40, 49, 41]⟩, ⟨#[110, 101, 103, 40, 49, 41]⟩, ⟨#[104, 111, 108, 100, 115, 40, 49, 44, 32, 49, 41]⟩, ⟨#[110, 111, 116, 104, 105, 110, 103, 40, 41]⟩]
/-- the arguments, without the comma at their end -/
def onesL : Nat → List UInt8
  | 0 => []
  | 1 => [49]
  | 2 => [49, 44, 49]
  | 3 => [49, 44, 49, 44, 49]
  | _ => [49, 44, 49, 44, 49, 44, 49]
theorem nm_ok (i : Nat) (hi : i < 5) : callN (nmL.getD i ⟨#[]⟩) = true ∧ eqT ⟨1, nmL.getD i ⟨#[]⟩, 0⟩ ⟨1, ⟨#[105, 102]⟩, 0⟩ = false ∧ (nmL.getD i ⟨#[]⟩).size ≤ 4000 ∧ tokF 1 (nmL.getD i ⟨#[]⟩) 0 = 0 := by
  match i, hi with
  | 0, _ => exact ⟨by rw [callG_eq]; decide +kernel, by decide +kernel, by decide +kernel, by decide +kernel⟩
  | 1, _ => exact ⟨by rw [callG_eq]; decide +kernel, by decide +kernel, by decide +kernel, by decide +kernel⟩
  | 2, _ => exact ⟨by rw [callG_eq]; decide +kernel, by decide +kernel, by decide +kernel, by decide +kernel⟩
  | 3, _ => exact ⟨by rw [callG_eq]; decide +kernel, by decide +kernel, by decide +kernel, by decide +kernel⟩
  | 4, _ => exact ⟨by rw [callG_eq]; decide +kernel, by decide +kernel, by decide +kernel, by decide +kernel⟩
theorem od_ok (i : Nat) (hi : i < 4) : callN (odL.getD i ⟨#[]⟩) = true ∧ eqT ⟨1, odL.getD i ⟨#[]⟩, 0⟩ ⟨1, ⟨#[105, 102]⟩, 0⟩ = false ∧ (odL.getD i ⟨#[]⟩).size ≤ 4000 ∧ tokF 1 (odL.getD i ⟨#[]⟩) 0 = 0 ∧ odN.getD i 0 ≤ 4 := by
  match i, hi with
  | 0, _ => exact ⟨by rw [callG_eq]; decide +kernel, by decide +kernel, by decide +kernel, by decide +kernel, by decide⟩
  | 1, _ => exact ⟨by rw [callG_eq]; decide +kernel, by decide +kernel, by decide +kernel, by decide +kernel, by decide⟩
  | 2, _ => exact ⟨by rw [callG_eq]; decide +kernel, by decide +kernel, by decide +kernel, by decide +kernel, by decide⟩
  | 3, _ => exact ⟨by rw [callG_eq]; decide +kernel, by decide +kernel, by decide +kernel, by decide +kernel, by decide⟩
theorem nm_cut (i k : Nat) (hi : i < 5) (hk : k < 5) : cutT ((nmL.getD i ⟨#[]⟩).data.toList ++ [40] ++ onesL k ++ [41]) = callK (nmL.getD i ⟨#[]⟩) k ∧ cutP ((nmL.getD i ⟨#[]⟩).data.toList ++ [40] ++ onesL k ++ [41]) = 0 ∧ cutE ((nmL.getD i ⟨#[]⟩).data.toList ++ [40] ++ onesL k ++ [41]) = 0 := by
  match i, hi, k, hk with
  | 0, _, 0, _ => exact ⟨by kernel_rfl, by kernel_rfl, by kernel_rfl⟩
  | 0, _, 1, _ => exact ⟨by kernel_rfl, by kernel_rfl, by kernel_rfl⟩
  | 0, _, 2, _ => exact ⟨by kernel_rfl, by kernel_rfl, by kernel_rfl⟩
  | 0, _, 3, _ => exact ⟨by kernel_rfl, by kernel_rfl, by kernel_rfl⟩
  | 0, _, 4, _ => exact ⟨by kernel_rfl, by kernel_rfl, by kernel_rfl⟩
  | 1, _, 0, _ => exact ⟨by kernel_rfl, by kernel_rfl, by kernel_rfl⟩
  | 1, _, 1, _ => exact ⟨by kernel_rfl, by kernel_rfl, by kernel_rfl⟩
  | 1, _, 2, _ => exact ⟨by kernel_rfl, by kernel_rfl, by kernel_rfl⟩
  | 1, _, 3, _ => exact ⟨by kernel_rfl, by kernel_rfl, by kernel_rfl⟩
  | 1, _, 4, _ => exact ⟨by kernel_rfl, by kernel_rfl, by kernel_rfl⟩
  | 2, _, 0, _ => exact ⟨by kernel_rfl, by kernel_rfl, by kernel_rfl⟩
  | 2, _, 1, _ => exact ⟨by kernel_rfl, by kernel_rfl, by kernel_rfl⟩
  | 2, _, 2, _ => exact ⟨by kernel_rfl, by kernel_rfl, by kernel_rfl⟩
  | 2, _, 3, _ => exact ⟨by kernel_rfl, by kernel_rfl, by kernel_rfl⟩
  | 2, _, 4, _ => exact ⟨by kernel_rfl, by kernel_rfl, by kernel_rfl⟩
  | 3, _, 0, _ => exact ⟨by kernel_rfl, by kernel_rfl, by kernel_rfl⟩
  | 3, _, 1, _ => exact ⟨by kernel_rfl, by kernel_rfl, by kernel_rfl⟩
  | 3, _, 2, _ => exact ⟨by kernel_rfl, by kernel_rfl, by kernel_rfl⟩
  | 3, _, 3, _ => exact ⟨by kernel_rfl, by kernel_rfl, by kernel_rfl⟩
  | 3, _, 4, _ => exact ⟨by kernel_rfl, by kernel_rfl, by kernel_rfl⟩
  | 4, _, 0, _ => exact ⟨by kernel_rfl, by kernel_rfl, by kernel_rfl⟩
  | 4, _, 1, _ => exact ⟨by kernel_rfl, by kernel_rfl, by kernel_rfl⟩
  | 4, _, 2, _ => exact ⟨by kernel_rfl, by kernel_rfl, by kernel_rfl⟩
  | 4, _, 3, _ => exact ⟨by kernel_rfl, by kernel_rfl, by kernel_rfl⟩
  | 4, _, 4, _ => exact ⟨by kernel_rfl, by kernel_rfl, by kernel_rfl⟩
theorem od_cut (i : Nat) (hi : i < 4) : cutT (odX.getD i ⟨#[]⟩).data.toList = callK (odL.getD i ⟨#[]⟩) (odN.getD i 0) ∧ cutP (odX.getD i ⟨#[]⟩).data.toList = 0 ∧ cutE (odX.getD i ⟨#[]⟩).data.toList = 0 := by
  match i, hi with
  | 0, _ => exact ⟨by kernel_rfl, by kernel_rfl, by kernel_rfl⟩
  | 1, _ => exact ⟨by kernel_rfl, by kernel_rfl, by kernel_rfl⟩
  | 2, _ => exact ⟨by kernel_rfl, by kernel_rfl, by kernel_rfl⟩
  | 3, _ => exact ⟨by kernel_rfl, by kernel_rfl, by kernel_rfl⟩
/-- what such a text is parsed to -/
theorem parse_call (nm : ByteArray) (n : Nat) (hn : n ≤ 4) (h1 : callN nm = true) (h2 : eqT ⟨1, nm, 0⟩ ⟨1, ⟨#[105, 102]⟩, 0⟩ = false) (hz : nm.size ≤ 4000) (hf : tokF 1 nm 0 = 0) (b c : Nat) (w : World) (hb : b < w.heap.size) (ht : ToksL w b (callK nm n)) (hot : Tab3 w) (hTb : Tabs w) (hM : MarkTab w) (hg : 0 < w.heap.size) :
    Calls Tryz.prog 9 #[.slice (some ⟨b, 0, none⟩) (callK nm n).length c] w fun e w' => ∃ v, Tre w' w.heap.size (callP nm n) v ∧ e = .returned (.tuple #[.agg v.toArray, .int .i64 0, .int .i64 0]) ∧ Below w.heap.size w w' :=
  parse_good (callK nm n) (callP nm n) 0 b c (by match n, hn with
    | 0, _ => show 3 ≤ 200; omega
    | 1, _ => show 4 ≤ 200; omega
    | 2, _ => show 6 ≤ 200; omega
    | 3, _ => show 8 ≤ 200; omega
    | 4, _ => show 10 ≤ 200; omega) (callK_good nm n hn hf hz) (fun pb b c => callK_sg nm n hn h1 h2 hz pb b c) w hb ht hot hTb hM hg
end Go.Proofs.YtcbpjgnbdpfiiaaGreatDoor
