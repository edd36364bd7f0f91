/-
  RULES of package core: a flwor of one ForIn as an expression, by the rule of flwor.
-/
import Derived.Test.YtcbpjgnbdpfiiaaGreatDoorPtFlw
import Derived.Test.YtcbpjgnbdpfiiaaGreatDoorRgIn
import Derived.Test.YtcbpjgnbdpfiiaaGreatDoorTcCut
import Derived.Test.YtcbpjgnbdpfiiaaGreatDoorLxE
import Derived.Test.YtcbpjgnbdpfiiaaGreatDoorLxT
import Derived.Test.YtcbpjgnbdpfiiaaGreatDoorLxG
import Derived.Test.YtcbpjgnbdpfiiaaGreatDoorLcB
set_option linter.unusedVariables false
namespace Go.Proofs.YtcbpjgnbdpfiiaaGreatDoor
set_option maxRecDepth 100000
open Go.RowKit

/-- a parser that is made anew -/
theorem PaS.new {w : World} {b c : Nat} {T : List Tok} (hb : b < w.heap.size) (ht : ToksL w b T) : PaS (w.alloc (.cells #[.slice (some ⟨b, 0, none⟩) T.length c, .int .i64 0, .int .i64 0, .int .i64 0] 70)) w.heap.size b c T ⟨0, 0, 0⟩ :=
  ⟨by simp, by simp, by simp, by simp, by simp, by simp, by simp, by simp, by simp; omega, by omega, ht.grow ((GrowA.refl (w.heap.size) w).alloc _) hb (by omega)⟩
theorem ToksL.below {w w' : World} {b : Nat} {L : List Tok} (h : ToksL w b L) (hb : Below w.heap.size w w') (hlt : b < w.heap.size) : ToksL w' b L := fun k hk => by
  obtain ⟨h1, h2, h3⟩ := h k hk
  exact ⟨(hb.cell (p := ⟨b, k * 3, none⟩) hlt).trans h1, (hb.cell (p := ⟨b, k * 3 + 1, none⟩) hlt).trans h2, (hb.cell (p := ⟨b, k * 3 + 2, none⟩) hlt).trans h3⟩
/-- the tables lie there -/
def Tab3 (w : World) : Prop := OpTab w ∧ KtTab w ∧ AxTab w
theorem Tab3.below {w w' : World} (h : Tab3 w) (hb : Below w.heap.size w w') : Tab3 w' := ⟨h.1.below hb, h.2.1.below hb, h.2.2.below hb⟩
theorem Tab3.rtab {w : World} {pb n : Nat} (h : Tab3 w) (hn : 4 < n ∧ 6 < n ∧ 5 < n) (hp : n ≤ pb) : RTab w pb := ⟨h.1, h.2.1, h.2.2, by omega, by omega, by omega⟩
theorem Tab3.lt {w : World} (h : Tab3 w) : 4 < w.heap.size ∧ 6 < w.heap.size ∧ 5 < w.heap.size := by
  obtain ⟨⟨t1, f1, h1⟩, ⟨t2, f2, h2⟩, ⟨t3, f3, h3⟩⟩ := h
  exact ⟨(Array.getElem?_eq_some_iff.1 h1).1, (Array.getElem?_eq_some_iff.1 h2).1, (Array.getElem?_eq_some_iff.1 h3).1⟩
/-- tokens that CheckToken lets be -/
def GoodT (T : List Tok) : Prop := ∀ t ∈ T, tokF t.kind t.s t.n = 0 ∧ t.s.size ≤ 4000
set_option maxHeartbeats 3200000 in
theorem parse_good (T : List Tok) (p : Ph) (o : Nat) (b c : Nat) (hT : T.length ≤ 200) (hG : GoodT T) (hrun : ∀ pb b c, RunT pb b c T 21 #[.pointer (some ⟨pb, 0, none⟩)] ⟨0, 0, 0⟩ ⟨T.length, o, 0⟩ p) (w : World) (hb : b < w.heap.size) (ht : ToksL w b T) (hot : Tab3 w) (hTb : Tabs w) (hM : MarkTab w) (hg : 0 < w.heap.size) :
    Calls Tryz.prog 9 #[.slice (some ⟨b, 0, none⟩) T.length c] w fun e w' => ∃ v, Tre w' w.heap.size p v ∧ e = .returned (.tuple #[.agg v.toArray, .int .i64 0, .int .i64 0]) ∧ Below w.heap.size w w' := by
  have CK : Hid (∀ W kd s n, Below w.heap.size w W → tokF kd s n = 0 → s.size ≤ 4000 → Calls Tryz.prog 20 #[.agg #[.int .i64 kd, .string s, .int .i64 n]] W fun e w' => e = .returned (.int .i64 0) ∧ Below W.heap.size W w') := fun W kd s n hW ht hs => (checkToken_any kd n s W (by unfold maxLen; omega) (Utf8Tabs_below hTb hW) (hM.below hW hg) (Nat.lt_of_lt_of_le hg hW.size)).mono fun e w' ⟨k1, k2⟩ => ⟨by rw [k1, ht], k2⟩
  have HTK : Hid (ToksL w b T) := ht
  have HOT : Hid (Tab3 w) := hot
  have HGD : Hid (∀ j (h : j < T.length), ∃ kd s n, T[j] = ⟨kd, s, n⟩ ∧ tokF kd s n = 0 ∧ s.size ≤ 4000) := fun j h => ⟨T[j].kind, T[j].s, T[j].n, rfl, (hG _ (List.getElem_mem h)).1, (hG _ (List.getElem_mem h)).2⟩
  have hol := hot.lt
  have HRR := HidOf hrun
  have hl200 : ¬ ((200 : Int) < (T.length : Int)) := by omega
  clear ht hot hTb hM hg hrun hG
  go_enter Tryz.func9, Tryz.ntmps9
  go_wp2
  obtain ⟨W1, hW1⟩ : ∃ W, W = w.alloc (.cells #[.int .i64 0, .int .i64 0, .int .i64 0, .string ⟨#[]⟩, .string ⟨#[]⟩, .int .i64 0, .int .i64 0, .int .i64 0, .string ⟨#[]⟩, .slice none 0 0, .slice none 0 0] 38) := ⟨_, rfl⟩
  have HB1 : Hid (Below w.heap.size w W1) := by rw [hW1]; exact (Below.refl _ _).alloc (Nat.le_refl _) _
  have HR1 : Hid (PhB W1 w.heap.size #[.int .i64 0, .int .i64 0, .int .i64 0, .string ⟨#[]⟩, .string ⟨#[]⟩, .int .i64 0, .int .i64 0, .int .i64 0, .string ⟨#[]⟩, .slice none 0 0, .slice none 0 0]) := by rw [hW1]; exact PhB.new w _
  rw [← hW1]
  obtain ⟨r, hr⟩ : ∃ r, r = w.heap.size := ⟨_, rfl⟩
  have HRW : Hid (r = w.heap.size) := hr
  rw [← hr] at HR1 ⊢
  clear hW1 hr
  go_loopw [16] (fun i wr => ∃ j : Nat, j ≤ T.length ∧ i = .int .i64 j ∧ Below W1.heap.size W1 wr) (fun i _ => T.length - (intOf i).toNat)
  case atStart => exact ⟨0, Nat.zero_le _, rfl, Below.refl _ _⟩
  case round =>
    obtain ⟨j, hj, rfl, hbw⟩ := hrel
    have HBW : Hid (Below W1.heap.size W1 wr) := hbw
    have HBA : Hid (Below w.heap.size w wr) := HB1.out.trans (hbw.mono HB1.out.size)
    clear hbw
    by_cases hlt : j < T.length
    · obtain ⟨x0, x1, x2⟩ := (HTK.out.below HBA.out hb) j hlt
      obtain ⟨kd, s, n, e1, e2, e3⟩ := HGD.out j hlt
      rw [e1] at x0 x1 x2
      simp only at x0 x1 x2
      have hji : (j : Int) < (T.length : Int) := by omega
      have hbr : b < wr.heap.size := Nat.lt_of_lt_of_le hb HBA.out.size
      have C3 : Hid (∀ o, Calls Tryz.prog 20 #[.agg #[.int .i64 kd, .string s, .int .i64 n]] (wr.alloc o) fun e w' => e = .returned (.int .i64 0) ∧ Below W1.heap.size W1 w') := fun o => (CK.out (wr.alloc o) kd s n (HBA.out.alloc HBA.out.size o) e2 e3).mono fun e w' ⟨k1, k2⟩ => ⟨k1, (HBW.out.alloc HBW.out.size o).trans (k2.mono (by have := HBW.out.size; simp; omega))⟩
      clear e1 e2 e3
      go_wp2_with (first
        | (go_at_call 20; refine (C3.out _).mono ?_; rintro e w3 ⟨rfl, hb3⟩; have HB3 : Hid (Below W1.heap.size W1 w3) := hb3; clear hb3))
      go_roundw
      case rel => exact ⟨j + 1, by omega, by go_num, HB3.out⟩
      case measure => simp [intOf]; omega
    · have hji : ¬ ((j : Int) < (T.length : Int)) := by omega
      go_upto_region 11 with fail
      obtain ⟨WP, hWP⟩ : ∃ W, W = wr.alloc (.cells #[.slice (some ⟨b, 0, none⟩) T.length c, .int .i64 0, .int .i64 0, .int .i64 0] 70) := ⟨_, rfl⟩
      obtain ⟨pb, hpb⟩ : ∃ p, p = wr.heap.size := ⟨_, rfl⟩
      have hrp : r ≠ pb := by have k1 := HRW.out; have k2 := (HR1.out.below HBW.out).lt; omega
      have hrl0 : r < pb := by rw [hpb]; exact (HR1.out.below HBW.out).lt
      have hrb : r ≠ b := by have k1 := HRW.out; omega
      have hwp : w.heap.size ≤ pb := by rw [hpb]; exact HBA.out.size
      have HP1 : Hid (PaS WP pb b c T ⟨0, 0, 0⟩) := by rw [hWP, hpb]; exact PaS.new (Nat.lt_of_lt_of_le hb HBA.out.size) (HTK.out.below HBA.out hb)
      have HO1 : Hid (RTab WP pb) := by rw [hWP]; exact ((HOT.out.below HBA.out).below ((Below.refl _ _).alloc (Nat.le_refl _) _)).rtab hol hwp
      have HR2 : Hid (PhB WP r #[.int .i64 0, .int .i64 0, .int .i64 0, .string ⟨#[]⟩, .string ⟨#[]⟩, .int .i64 0, .int .i64 0, .int .i64 0, .string ⟨#[]⟩, .slice none 0 0, .slice none 0 0]) := by rw [hWP]; exact (HR1.out.below HBW.out).allocI _
      have HBP : Hid (Below w.heap.size w WP) := by rw [hWP]; exact HBA.out.alloc HBA.out.size _
      have hpz : pb ≤ WP.heap.size := Nat.le_of_lt HP1.out.pl
      rw [← hWP, ← hpb]
      clear hWP hpb HR1 HBW HBA
      have CL : Hid (Calls Tryz.prog 21 #[.pointer (some ⟨pb, 0, none⟩)] WP fun e w' => ∃ v, Tre w' WP.heap.size p v ∧ e = .returned (.agg v.toArray) ∧ PaS w' pb b c T ⟨T.length, o, 0⟩ ∧ GrowA pb WP w') := HRR.out pb b c WP HP1.out HO1.out
      go_wp2_with (first
        | (go_at_call 21; refine CL.out.mono ?_; rintro e w2 ⟨v, hv, rfl, hp, hg⟩; obtain ⟨k0_1, k1_1, k2_1, k5_1, k6_1, k7_1, s3_1, s4_1, s8_1, a9_1, a10_1, l9_1, c9_1, l10_1, c10_1, rfl⟩ := hv.form; have HV2 : Hid (Tre w2 WP.heap.size p [.int .i64 k0_1, .int .i64 k1_1, .int .i64 k2_1, .string s3_1, .string s4_1, .int .i64 k5_1, .int .i64 k6_1, .int .i64 k7_1, .string s8_1, .slice a9_1 l9_1 c9_1, .slice a10_1 l10_1 c10_1]) := hv; have HB2 : Hid (Below w.heap.size w w2) := (HBP.out.trans ((hg.low hpz).mono hwp)); have hx1 := hp.a; have hx3 := hp.e; have hpl := hp.pl; obtain ⟨⟨y0, y1, y2, y3, y4, y5, y6, y7, y8, y9, y10⟩, z0, z1, z2, z3, z4, z5, z6, z7, z8, z9, z10⟩ := (HR2.out.grow hg hrp).cells; have hrl := (HR2.out.grow hg hrp).lt; clear hv hp hg))
      refine bodyPost_ret (v := .tuple #[.agg #[.int .i64 k0_1, .int .i64 k1_1, .int .i64 k2_1, .string s3_1, .string s4_1, .int .i64 k5_1, .int .i64 k6_1, .int .i64 k7_1, .string s8_1, .slice a9_1 l9_1 c9_1, .slice a10_1 l10_1 c10_1], .int .i64 0, .int .i64 0]) (by simp [results, Tryz.results9, go_sem, hrl, y0, y1, y2, y3, y4, y5, y6, y7, y8, y9, y10]) rfl ⟨[.int .i64 k0_1, .int .i64 k1_1, .int .i64 k2_1, .string s3_1, .string s4_1, .int .i64 k5_1, .int .i64 k6_1, .int .i64 k7_1, .string s8_1, .slice a9_1 l9_1 c9_1, .slice a10_1 l10_1 c10_1], ?_, rfl, ?_⟩
      · refine Tre.mono (lo := WP.heap.size) ?_ (Nat.le_trans hwp hpz)
        (repeat (first | with_reducible refine Tre.allocI ?_ _ | with_reducible refine Tre.setR ?_ (Nat.lt_of_lt_of_le hrl0 hpz) _ _ | with_reducible exact HV2.out))
      · (first | (with_reducible refine Below.alloc ?_ (by have := HB2.out.size; simp; omega) _) | skip)
        repeat with_reducible refine below_setA ?_ (Nat.le_of_eq HRW.out.symm) _ _
        with_reducible exact HB2.out
end Go.Proofs.YtcbpjgnbdpfiiaaGreatDoor
set_option linter.unusedVariables false
namespace Go.Proofs.YtcbpjgnbdpfiiaaGreatDoor
set_option maxRecDepth 100000
open Go.RowKit

def tkA (T : List Tok) (i : Nat) : Tok := T.getD i tok0
theorem see0 {T : List Tok} {a o k : Nat} : seeM T ⟨a, o, 0⟩ k = tkA T (a + k) := by
  unfold seeM tkA
  split
  · rename_i h
    rcases h with h | h
    · exact absurd rfl h
    · rw [List.getD_eq_getElem?_getD, List.getElem?_eq_none h]; rfl
  · rfl
theorem ent0 {T : List Tok} {a o : Nat} {g : Bool} (h : o < 30) : enterM T ⟨a, o, 0⟩ g = ⟨a, o + 1, 0⟩ := by
  unfold enterM
  simp only
  rw [if_neg (by omega)]
theorem want0 {T : List Tok} {a o : Nat} {t : Tok} (h : eqT (tkA T a) t = true) : wantM T ⟨a, o, 0⟩ t = ⟨a + 1, o, 0⟩ := by
  unfold wantM skipM
  rw [show seeM T ⟨a, o, 0⟩ 0 = tkA T a from see0]
  rw [if_pos h]
  rfl
/-- a single stands from place a to place z, where o levels are open -/
def Sg (T : List Tok) (o a z : Nat) (p : Ph) : Prop := ∀ pb b c, RunT pb b c T 73 #[.pointer (some ⟨pb, 0, none⟩)] ⟨a, o, 0⟩ ⟨z, o, 0⟩ p
/-- a list -/
def Ls (T : List Tok) (o a z : Nat) (p : Ph) : Prop := ∀ pb b c, RunT pb b c T 21 #[.pointer (some ⟨pb, 0, none⟩)] ⟨a, o, 0⟩ ⟨z, o, 0⟩ p
/-- what stands where a step may stand -/
def Ns (T : List Tok) (o a z : Nat) (p : Ph) : Prop := ∀ pb b c, RunT pb b c T 166 #[.pointer (some ⟨pb, 0, none⟩)] ⟨a, o, 0⟩ ⟨z, o, 0⟩ p
def Bs (T : List Tok) (o a z : Nat) (p : Ph) : Prop := ∀ pb b c, RunT pb b c T 162 #[.pointer (some ⟨pb, 0, none⟩)] ⟨a, o, 0⟩ ⟨z, o, 0⟩ p
/-- a token behind which what stands is at its end -/
def stopT (u : Tok) : Bool := !(eqT u ⟨5, ⟨#[91]⟩, 0⟩) && (!(eqT u ⟨5, ⟨#[47]⟩, 0⟩) && (!(eqT u ⟨5, ⟨#[47, 47]⟩, 0⟩) && (!(u.kind == 1 || u.kind == 5) || !(decide (0 ≤ opOf u.s)))))
theorem stop_parts {u : Tok} (h : stopT u = true) : eqT u ⟨5, ⟨#[91]⟩, 0⟩ = false ∧ eqT u ⟨5, ⟨#[47]⟩, 0⟩ = false ∧ eqT u ⟨5, ⟨#[47, 47]⟩, 0⟩ = false ∧ ∀ bd : Int, opNext u bd = false := by
  unfold stopT at h
  simp only [Bool.and_eq_true, Bool.not_eq_true', Bool.or_eq_true] at h
  obtain ⟨h1, h2, h3, h4⟩ := h
  refine ⟨h1, h2, h3, fun bd => ?_⟩
  unfold opNext
  rcases h4 with h4 | h4
  · rw [h4]; rfl
  · rw [h4]; simp
/-- a token with which no operator, no path and no condition begins -/
def headT (u v : Tok) : Bool := !(eqT u ⟨5, ⟨#[47]⟩, 0⟩) && (!(eqT u ⟨5, ⟨#[47, 47]⟩, 0⟩) && (!(eqT u ⟨5, ⟨#[45]⟩, 0⟩) && (!(eqT u ⟨1, ⟨#[105, 102]⟩, 0⟩) && !(v.kind == 4))))
theorem bin_up {pb b c : Nat} {T : List Tok} {st s1 : Pst} {p : Ph} (hT : T.length ≤ 200) (hat : st.at' ≤ 300) (hat1 : s1.at' ≤ 300) (hn : ∀ bd : Int, opNext (seeM T s1 0) bd = false) (h : RunT pb b c T 141 #[.pointer (some ⟨pb, 0, none⟩)] st s1 p) :
    ∀ m bd : Nat, bd + m = 8 → RunT pb b c T 121 #[.pointer (some ⟨pb, 0, none⟩), .int .i64 (bd : Int)] st s1 p := by
  intro m
  induction m with
  | zero =>
    intro bd hb
    obtain rfl : bd = 8 := by omega
    exact binary_top hT hat h
  | succ m ih => intro bd hb; exact binary_none hT hat (by omega) hat1 (hn _) (ih (bd + 1) (by omega))
/-- a single of one bare step -/
theorem sg_prim {T : List Tok} {o a z : Nat} {p : Ph} (hT : T.length ≤ 200) (ha : a ≤ 250) (hz : z ≤ 250) (ho : o + 2 ≤ 30) (hh : headT (tkA T a) (tkA T (a + 1)) = true) (hs : stopT (tkA T z) = true) (h : Bs T (o + 2) a z p) : Sg T o a z p := by
  intro pb b c
  unfold headT at hh
  simp only [Bool.and_eq_true, Bool.not_eq_true'] at hh
  obtain ⟨h1, h2, h3, h4, h5⟩ := hh
  obtain ⟨s1, s2, s3, s4⟩ := stop_parts hs
  have hstep : RunT pb b c T 159 #[.pointer (some ⟨pb, 0, none⟩)] ⟨a, o + 1, 0⟩ ⟨z, o + 1, 0⟩ p :=
    step_plain (st := ⟨a, o + 1, 0⟩) (s0 := ⟨a, o + 2, 0⟩) (s1 := ⟨z, o + 2, 0⟩) hT (by simp only; omega) (by simp only; omega) (by simp only; omega) (by simp only; omega) (ent0 (by omega)) (u1k := (tkA T z).kind) (u1s := (tkA T z).s) (u1n := (tkA T z).n) see0 s1 (h pb b c)
  have hpath : RunT pb b c T 154 #[.pointer (some ⟨pb, 0, none⟩)] ⟨a, o + 1, 0⟩ ⟨z, o + 1, 0⟩ p :=
    path_step (st := ⟨a, o + 1, 0⟩) (uk := (tkA T a).kind) (us := (tkA T a).s) (un := (tkA T a).n) hT (by simp only; omega) see0 h2 h1 (by simp only; omega) (by rw [see0]; exact s2) (by rw [see0]; exact s3) hstep
  have hmin : RunT pb b c T 141 #[.pointer (some ⟨pb, 0, none⟩)] ⟨a, o + 1, 0⟩ ⟨z, o + 1, 0⟩ p :=
    minus_none (st := ⟨a, o + 1, 0⟩) (uk := (tkA T a).kind) (us := (tkA T a).s) (un := (tkA T a).n) hT (by simp only; omega) see0 h3 hpath
  have hbin := bin_up (st := ⟨a, o + 1, 0⟩) (s1 := ⟨z, o + 1, 0⟩) hT (by simp only; omega) (by simp only; omega) (fun bd => by rw [see0]; exact s4 bd) hmin 8 0 rfl
  exact single_bin (st := ⟨a, o, 0⟩) (s0 := ⟨a, o + 1, 0⟩) (s1 := ⟨z, o + 1, 0⟩) (uk := (tkA T a).kind) (us := (tkA T a).s) (un := (tkA T a).n) (vk := (tkA T (a + 1)).kind) (vs := (tkA T (a + 1)).s) (vn := (tkA T (a + 1)).n) hT (by simp only; omega) (by simp only; omega) (by simp only; omega) (by simp only; omega) (ent0 (by omega)) see0 see0 h5 h4 hbin
/-- a list of one single -/
theorem ls_one {T : List Tok} {o a z : Nat} {p : Ph} (hT : T.length ≤ 200) (ha : a ≤ 250) (hz : z ≤ 250) (ho : o + 1 ≤ 30) (hs : eqT (tkA T z) ⟨5, ⟨#[44]⟩, 0⟩ = false) (h : Sg T (o + 1) a z p) : Ls T o a z p := by
  intro pb b c
  have h1 : RunL pb b c T 45 ⟨a, o + 1, 0⟩ ⟨z, o + 1, 0⟩ 1 (fun _ => p) :=
    singles_is (st := ⟨a, o + 1, 0⟩) (n := 1) (A := fun _ => p) (ST := fun _ => ⟨z, o + 1, 0⟩) hT (by decide) (by decide) (fun k hk => by simp only; omega) (h pb b c) (fun k h1 h2 => absurd h2 (by omega)) (fun k h1 h2 => absurd h2 (by omega)) (by rw [see0]; exact hs)
  exact list_one (st := ⟨a, o, 0⟩) (s0 := ⟨a, o + 1, 0⟩) (s1 := ⟨z, o + 1, 0⟩) (A := fun _ => p) hT (by simp only; omega) (by simp only; omega) (by simp only; omega) (ent0 (by omega)) h1
/-- a bare step that is none, by a token that is no word -/
theorem bs_other {T : List Tok} {o a z : Nat} {p : Ph} (hT : T.length ≤ 200) (ha : a ≤ 250) (h1 : ((tkA T a).kind == 1) = false) (h2 : eqT (tkA T a) ⟨5, ⟨#[64]⟩, 0⟩ = false) (h3 : eqT (tkA T a) ⟨5, ⟨#[46, 46]⟩, 0⟩ = false) (h4 : childB (tkA T a) (tkA T (a + 1)) (tkA T (a + 2)) = false) (h : Ns T o a z p) : Bs T o a z p := by
  intro pb b c
  exact bareStep_other (st := ⟨a, o, 0⟩) (uk := (tkA T a).kind) (us := (tkA T a).s) (un := (tkA T a).n) hT (by simp only; omega) see0 h1 h2 h3 (by rw [see0, see0, see0]; exact h4) (h pb b c)
theorem bs_word {T : List Tok} {o a z : Nat} {p : Ph} (hT : T.length ≤ 200) (ha : a ≤ 250) (h1 : (tkA T a).kind = 1) (hx : eqT (tkA T (a + 1)) ⟨5, ⟨#[58, 58]⟩, 0⟩ = false) (h2 : eqT (tkA T a) ⟨5, ⟨#[64]⟩, 0⟩ = false) (h3 : eqT (tkA T a) ⟨5, ⟨#[46, 46]⟩, 0⟩ = false) (h4 : childB (tkA T a) (tkA T (a + 1)) (tkA T (a + 2)) = false) (h : Ns T o a z p) : Bs T o a z p := by
  intro pb b c
  have e : tkA T a = ⟨1, (tkA T a).s, (tkA T a).n⟩ := by rw [← h1]
  exact bareStep_word (st := ⟨a, o, 0⟩) (us := (tkA T a).s) (un := (tkA T a).n) (u1k := (tkA T (a + 1)).kind) (u1s := (tkA T (a + 1)).s) (u1n := (tkA T (a + 1)).n) hT (by simp only; omega) (see0.trans e) see0 hx (by rw [← e]; exact h2) (by rw [← e]; exact h3) (by rw [see0, see0, see0]; exact h4) (h pb b c)
def litN (n : Int) : Ph := ph0 1 ⟨2, n, ⟨#[]⟩⟩ ⟨#[]⟩ 0 0 0 ⟨#[]⟩
/-- a number, as a single -/
theorem sg_num {T : List Tok} {o a : Nat} {n : Int} (hT : T.length ≤ 200) (ha : a ≤ 249) (ho : o + 2 ≤ 30) (ht : tkA T a = ⟨2, ⟨#[]⟩, n⟩) (hv : ((tkA T (a + 1)).kind == 4) = false) (hs : stopT (tkA T (a + 1)) = true) : Sg T o a (a + 1) (litN n) := by
  have hh : ∀ k s, eqT (tkA T a) ⟨k, s, 0⟩ = (decide ((2 : Int) = k) && decide ((⟨#[]⟩ : ByteArray) = s) && decide (n = 0)) := fun k s => by rw [ht]; rfl
  refine sg_prim hT (by omega) (by omega) ho ?_ hs (bs_other hT (by omega) ?_ ?_ ?_ ?_ ?_)
  · unfold headT
    rw [hh, hh, hh, hh, hv]
    simp
  · rw [ht]; rfl
  · rw [hh]; simp
  · rw [hh]; simp
  · unfold childB
    rw [hh, ht]
    simp
  · intro pb b c
    exact noStep_num (st := ⟨a, o + 2, 0⟩) (us := ⟨#[]⟩) (un := n) hT (by simp only; omega) (see0.trans ht)
end Go.Proofs.YtcbpjgnbdpfiiaaGreatDoor
set_option linter.unusedVariables false
namespace Go.Proofs.YtcbpjgnbdpfiiaaGreatDoor
set_option maxRecDepth 100000
open Go.RowKit

theorem eqT_kind {k k' n n' : Int} {s s' : ByteArray} (h : k ≠ k') : eqT ⟨k, s, n⟩ ⟨k', s', n'⟩ = false := by
  unfold eqT
  rw [decide_eq_false h]; rfl
theorem eqT_self {u : Tok} : eqT u u = true := by simp [eqT]
/-- the same search, by the lists of bytes themselves: it can be decided -/
def goG (N : Nat → ByteArray) (V : Nat → Int) (e : Int) (s : ByteArray) : Nat → Nat → Int
  | 0, _ => e
  | n + 1, k => if ((N k).data.toList == s.data.toList) = true then V k else goG N V e s n (k + 1)
theorem goG_eq {N : Nat → ByteArray} {V : Nat → Int} {e : Int} {s : ByteArray} : ∀ (n k : Nat), goF N V e s n k = goG N V e s n k
  | 0, _ => rfl
  | n + 1, k => by simp only [goF, goG, ByteArray.toList_eq, goG_eq n (k + 1)]
def stopG (u : Tok) : Bool := !(eqT u ⟨5, ⟨#[91]⟩, 0⟩) && (!(eqT u ⟨5, ⟨#[47]⟩, 0⟩) && (!(eqT u ⟨5, ⟨#[47, 47]⟩, 0⟩) && (!(u.kind == 1 || u.kind == 5) || !(decide (0 ≤ goG opN opB (-1) u.s 21 0)))))
theorem stopG_eq (u : Tok) : stopT u = stopG u := by unfold stopT stopG opOf; rw [goG_eq]
/-- a text constructor around a list -/
theorem bs_text {T : List Tok} {o a z : Nat} {p : Ph} (hT : T.length ≤ 200) (ha : a ≤ 240) (hz : z ≤ 250) (h0 : tkA T a = ⟨1, ⟨#[116, 101, 120, 116]⟩, 0⟩) (h1 : tkA T (a + 1) = ⟨5, ⟨#[123]⟩, 0⟩) (h2 : eqT (tkA T (a + 2)) ⟨5, ⟨#[125]⟩, 0⟩ = false) (h3 : tkA T z = ⟨5, ⟨#[125]⟩, 0⟩) (h : Ls T o (a + 2) z p) : Bs T o a (z + 1) (phN 10 ⟨0, 0, ⟨#[]⟩⟩ ⟨#[]⟩ 3 0 0 ⟨#[]⟩ 1 (fun _ => p)) := by
  have hm : mkBeg (tkA T a) (tkA T (a + 1)) (tkA T (a + 2)) = true := by
    unfold mkBeg
    rw [h0, h1, if_neg (by decide), if_pos (by decide)]
    decide
  have hc : childB (tkA T a) (tkA T (a + 1)) (tkA T (a + 2)) = false := by
    unfold childB
    rw [hm, h0, show eqT ⟨1, ⟨#[116, 101, 120, 116]⟩, 0⟩ ⟨5, ⟨#[42]⟩, 0⟩ = false by decide]
    simp
  refine bs_word hT (by omega) (by rw [h0]) (by rw [h1]; decide) (by rw [h0]; decide) (by rw [h0]; decide) hc ?_
  intro pb b c
  have hup : RunT pb b c T 170 #[.pointer (some ⟨pb, 0, none⟩), .agg #[.int .i64 5, .string ⟨#[125]⟩, .int .i64 0]] ⟨a + 2, o, 0⟩ ⟨z + 1, o, 0⟩ p :=
    listUpTo_more (st := ⟨a + 2, o, 0⟩) (s1 := ⟨z, o, 0⟩) hT (by simp only; omega) (by simp only; omega) (by rw [see0]; exact h2) (want0 (by rw [h3]; exact eqT_self)) (h pb b c)
  have hco : RunT pb b c T 171 #[.pointer (some ⟨pb, 0, none⟩)] ⟨a, o, 0⟩ ⟨z + 1, o, 0⟩ (phN 10 ⟨0, 0, ⟨#[]⟩⟩ ⟨#[]⟩ 3 0 0 ⟨#[]⟩ 1 (fun _ => p)) :=
    cons_text (st := ⟨a, o, 0⟩) (us := ⟨#[116, 101, 120, 116]⟩) (un := 0) hT (by simp only; omega) (see0.trans h0) (by decide) (by rw [ByteArray.toList_eq]; decide) (by rw [ByteArray.toList_eq]; decide) (by simp only; omega) (want0 (by rw [h1]; exact eqT_self)) hup
  exact noStep_make (st := ⟨a, o, 0⟩) (us := ⟨#[116, 101, 120, 116]⟩) (uk := 1) (un := 0) hT (by simp only; omega) (see0.trans h0) (by decide) (by decide) (by decide) (by decide) (by decide) (by rw [see0, see0, see0]; exact hm) hco
theorem head_word {s : ByteArray} {v : Tok} (h1 : eqT ⟨1, s, 0⟩ ⟨1, ⟨#[105, 102]⟩, 0⟩ = false) (h2 : (v.kind == 4) = false) : headT ⟨1, s, 0⟩ v = true := by
  unfold headT
  rw [eqT_kind (by decide), eqT_kind (by decide), eqT_kind (by decide), h1, h2]
  rfl
/-- what a loop over a number says -/
def forP (nm : ByteArray) (n : Int) (p : Ph) : Ph := .mk 28 ⟨0, 0, ⟨#[]⟩⟩ ⟨#[]⟩ 0 0 0 ⟨#[]⟩ 1 (fun _ => p) 1 (fun _ => 1) (fun _ => nm) (fun _ => ⟨#[]⟩) (fun _ => false) (fun _ => litN n)
/-- a loop over a number -/
theorem sg_for {T : List Tok} {o a z : Nat} {nm : ByteArray} {n : Int} {p : Ph} (hT : T.length ≤ 200) (ha : a ≤ 200) (hz : z ≤ 250) (ho : o + 4 ≤ 30) (h0 : tkA T a = ⟨1, ⟨#[102, 111, 114]⟩, 0⟩) (h1 : tkA T (a + 1) = ⟨4, nm, 0⟩) (h2 : tkA T (a + 2) = ⟨1, ⟨#[105, 110]⟩, 0⟩) (h3 : tkA T (a + 3) = ⟨2, ⟨#[]⟩, n⟩) (h4 : tkA T (a + 4) = ⟨1, ⟨#[114, 101, 116, 117, 114, 110]⟩, 0⟩) (hsz : nm.size ≤ 4000) (h : Sg T (o + 1) (a + 5) z p) : Sg T o a z (forP nm n p) := by
  intro pb b c
  have hnum : Sg T (o + 1) (a + 3) (a + 4) (litN n) := sg_num hT (by omega) (by omega) h3 (by rw [h4]; decide) (by rw [h4, stopG_eq]; decide)
  have hfi : RunC pb b c T 152 ⟨a + 1, o + 1, 0⟩ ⟨a + 4, o + 1, 0⟩ 1 nm ⟨#[]⟩ false (litN n) :=
    forIn_plain (st := ⟨a + 1, o + 1, 0⟩) (s2 := ⟨a + 3, o + 1, 0⟩) (us := nm) (un := 0) hT (by simp only; omega) (see0.trans h1) hsz (by simp only; omega) (by rw [see0]; rw [Nat.add_zero, h2]; decide) (want0 (by rw [h2]; exact eqT_self)) (hnum pb b c)
  have hbi : RunB pb b c T 137 ⟨a, o + 1, 0⟩ ⟨a + 4, o + 1, 0⟩ 1 (fun _ => 1) (fun _ => nm) (fun _ => ⟨#[]⟩) (fun _ => false) (fun _ => litN n) :=
    bindings_is (n := 1) (ST := fun k => if k = 0 then ⟨a, o + 1, 0⟩ else ⟨a + 4, o + 1, 0⟩) (FK := fun _ => true) hT (by decide) (fun k hk => by by_cases hk0 : k = 0 <;> simp [hk0] <;> omega)
      (fun k hk _ => by
        obtain rfl : k = 0 := by omega
        refine ⟨?_, ?_⟩
        · simp only [if_true]
          rw [see0, Nat.add_zero, h0]; exact eqT_self
        · exact hfi)
      (fun k hk h => absurd h (by decide))
      ⟨by simp only [Nat.one_ne_zero, if_false]; rw [see0, Nat.add_zero, h4]; decide, by simp only [Nat.one_ne_zero, if_false]; rw [see0, Nat.add_zero, h4]; decide⟩
  have hfl : RunT pb b c T 118 #[.pointer (some ⟨pb, 0, none⟩)] ⟨a, o + 1, 0⟩ ⟨z, o + 1, 0⟩ (forP nm n p) :=
    flwor_plain (st := ⟨a, o + 1, 0⟩) (s1 := ⟨a + 4, o + 1, 0⟩) (s2 := ⟨a + 5, o + 1, 0⟩) hT (by simp only; omega) (by simp only; omega) hbi (by rw [see0, Nat.add_zero, h4]; decide) (by rw [see0, Nat.add_zero, h4]; decide) (want0 (by rw [h4]; exact eqT_self)) (h pb b c)
  exact single_for (st := ⟨a, o, 0⟩) (s0 := ⟨a, o + 1, 0⟩) (s1 := ⟨z, o + 1, 0⟩) (uk := 1) (us := ⟨#[102, 111, 114]⟩) (un := 0) (vk := 4) (vs := nm) (vn := 0) hT (by simp only; omega) (by simp only; omega) (by simp only; omega) (by simp only; omega) (ent0 (by omega)) (see0.trans h0) (see0.trans h1) (by decide) (by decide) hfl
end Go.Proofs.YtcbpjgnbdpfiiaaGreatDoor
set_option linter.unusedVariables false
namespace Go.Proofs.YtcbpjgnbdpfiiaaGreatDoor
set_option maxRecDepth 100000
open Go.RowKit

theorem stop_end : stopT tok0 = true := by rw [stopG_eq]; decide
end Go.Proofs.YtcbpjgnbdpfiiaaGreatDoor
set_option linter.unusedVariables false
namespace Go.Proofs.YtcbpjgnbdpfiiaaGreatDoor
set_option maxRecDepth 100000
open Go.RowKit Go.WideShapes

theorem Tre.wide {w : World} {lo : Nat} {p : Ph} {v : List Value} (h : Tre w lo p v) : p.V w (fun b => b < w.heap.size) v := Ph.V.keep (fun b q => q.2) (fun _ _ => rfl) h
end Go.Proofs.YtcbpjgnbdpfiiaaGreatDoor
set_option linter.unusedVariables false
namespace Go.Proofs.YtcbpjgnbdpfiiaaGreatDoor
set_option maxRecDepth 100000
open Go.RowKit Go.WideShapes

theorem alone_forP {nm : ByteArray} {n : Int} {ph : Ph} {N : ByteArray → Nat} {p : Nat} (hs : nm.size ≤ maxLen) (hc : clF 1 (fun _ => 1) (fun _ => nm) (fun _ => ⟨#[]⟩) = 0) : ∀ (W : World) (lb tb ob sb : Nat) (S : Nat → Prop) (pb po : Nat) (u : List Value), XB W lb tb ob sb → XS W lb tb ob sb N p W → PhIn W lb sb pb po (forP nm n ph) S u → Calls Tryz.prog 48 #[.pointer (some ⟨lb, 0, none⟩), .pointer (some ⟨pb, po, none⟩)] W fun e w' => e = .returned (.int .i64 0) ∧ Below W.heap.size W w' := by
  intro W lb tb ob sb S pb po u hB hX hP
  obtain ⟨aa, ac, a10, cc, hu, h1, h2, h3, h4, h5, h6⟩ := hP.v
  obtain ⟨cb, co, rfl, hS, hcl⟩ := h6 (by decide)
  obtain ⟨u', k1, k2⟩ := hcl 0 (by decide)
  have e0 := k1 0 (by simp)
  have e1 := k1 1 (by simp)
  have e2 := k1 2 (by simp)
  have h := alone_flwor lb pb po ⟨0, 0, ⟨#[]⟩⟩ ⟨#[]⟩ 0 0 0 ⟨#[]⟩ aa ac cb co 1 cc (fun _ => 1) (fun _ => nm) (fun _ => ⟨#[]⟩) W (phAt_c (hu ▸ hP.c)) (hP.h pb hP.s).1 h2 h4 (fun i hi => by
    obtain rfl : i = 0 := by omega
    exact ⟨e0, e1, e2, hs, by decide⟩) (hP.h cb hS).1
  rw [hc] at h
  exact h
set_option maxHeartbeats 6400000 in
theorem expr_for {nm : ByteArray} {n : Int} {ph : Ph} {N : ByteArray → Nat} {p q : Nat} {X : Ex} (hCA : ∀ (W : World) (lb tb ob sb : Nat) (S : Nat → Prop) (pb po : Nat) (u : List Value), XB W lb tb ob sb → XS W lb tb ob sb N p W → PhIn W lb sb pb po (forP nm n ph) S u → Calls Tryz.prog 48 #[.pointer (some ⟨lb, 0, none⟩), .pointer (some ⟨pb, po, none⟩)] W fun e w' => e = .returned (.int .i64 0) ∧ Below W.heap.size W w') (h : RunF 52 (forP nm n ph) N p q X) : RunE (forP nm n ph) N p q X := by
  intro w lb tb ob sb S pb po u hB hX hP
  have HB := HidOf hB
  have HX := HidOf hX
  have HU := HidOf hP
  have HH := HidOf h
  have hll := hB.ll
  have hsl := hB.sl
  obtain ⟨aa, ac, a10, c10', hu, _⟩ := hP.v
  have hpw := (hP.h pb hP.s).1
  have hpl := (hP.h pb hP.s).2.1
  have CA : Hid (∀ W, XS w lb tb ob sb N p W → Calls Tryz.prog 48 #[.pointer (some ⟨lb, 0, none⟩), .pointer (some ⟨pb, po, none⟩)] W fun e w' => e = .returned (.int .i64 0) ∧ Below W.heap.size W w') := fun W hW => hCA W lb tb ob sb S pb po u (hB.at hW) hW.here (hP.at hW)
  have HC0 : Hid (∀ W, XS w lb tb ob sb N p W → W.cell? ⟨pb, po, none⟩ = some (.int .i64 28)) := fun W hW => (phAt_c (hu ▸ (hP.at hW).c)).c0
  have hne := hB.ls
  obtain ⟨_, _, _, _, l4, l5, l6⟩ := bk5 hX.l
  clear hB hX hP h hCA
  go_enter Tryz.func25, Tryz.ntmps25
  go_upto_region 3 with (go_at_call 48; refine (CA.out _ ?_).mono ?_; (· exact HX.out.alloc _); rintro e w1 ⟨rfl, hb1⟩; have HS0 : Hid (XS w lb tb ob sb N p w1) := (HX.out.alloc _).below hb1; have HR0 : Hid (w1.heap[w.heap.size]? = some (.cells #[.int .i64 0, .int .i64 0, .int .i64 0, .string ⟨#[]⟩, .string ⟨#[]⟩, .string ⟨#[]⟩, .int .i64 0, .int .i64 0, .int .i64 0, .string ⟨#[]⟩, .slice none 0 0] 43)) := ((hb1.block w.heap.size (by simp)).trans (heap_alloc_new _ _)); obtain ⟨_, _, _, _, m4, m5, m6⟩ := bk5 HS0.out.l; clear hb1)
  obtain ⟨W1, hW1⟩ : ∃ W, W = w1.setCell ⟨lb, 4, none⟩ (.int .i64 0) := ⟨_, rfl⟩
  have HS1 : Hid (XS w lb tb ob sb N p W1) := by rw [hW1]; exact HS0.out.zero hne
  have HR1 : Hid (W1.heap[w.heap.size]? = some (.cells #[.int .i64 0, .int .i64 0, .int .i64 0, .string ⟨#[]⟩, .string ⟨#[]⟩, .string ⟨#[]⟩, .int .i64 0, .int .i64 0, .int .i64 0, .string ⟨#[]⟩, .slice none 0 0] 43)) := by rw [hW1]; exact sOth HR0.out (by omega)
  have hz1 : w.heap.size < W1.heap.size := (Array.getElem?_eq_some_iff.1 HR1.out).1
  have c0 := HC0.out W1 HS1.out
  have hpb1 : pb < W1.heap.size := by omega
  rw [← hW1]
  clear hW1 m4 m5 m6 HS0 HR0 l4 l5
  obtain ⟨_, _, _, _, m4, m5, m6⟩ := bk5 HS1.out.l
  go_wp2_with (first
    | (go_at_call 52; refine (HH.out.use HB.out HS1.out HU.out).mono ?_; rintro e w2 ⟨x0, x1, x2, x6, x7, x8, y3, y4, y5, y9, b10, l10, c10, hx, rfl, hs, hk, hz⟩; have HS2 : Hid (XS w lb tb ob sb N q w2) := hs; have HE2 : Hid (X.W w2 (fun b => w.heap.size + 1 ≤ b ∧ b < w2.heap.size) [.int .i64 x0, .int .i64 x1, .int .i64 x2, .string y3, .string y4, .string y5, .int .i64 x6, .int .i64 x7, .int .i64 x8, .string y9, .slice b10 l10 c10]) := Ex.W.keep (fun b q => ⟨by have := hz1; omega, q.2⟩) (fun _ _ => rfl) hx; have HR2 : Hid (w2.heap[w.heap.size]? = some (.cells #[.int .i64 0, .int .i64 0, .int .i64 0, .string ⟨#[]⟩, .string ⟨#[]⟩, .string ⟨#[]⟩, .int .i64 0, .int .i64 0, .int .i64 0, .string ⟨#[]⟩, .slice none 0 0] 43)) := (hk w.heap.size hz1 (by omega) (by omega)).trans HR1.out; obtain ⟨z0, z1, z2, z3, z4, z5, z6, z7, z8, z9, z10, z11, z12⟩ := bk11 HR2.out; clear hs hx hk hz))
  obtain ⟨W9, hW9⟩ : ∃ W, W = (((((((((((w2).setCell ⟨w.heap.size, 0, none⟩ (.int .i64 x0)).setCell ⟨w.heap.size, 1, none⟩ (.int .i64 x1)).setCell ⟨w.heap.size, 2, none⟩ (.int .i64 x2)).setCell ⟨w.heap.size, 3, none⟩ (.string y3)).setCell ⟨w.heap.size, 4, none⟩ (.string y4)).setCell ⟨w.heap.size, 5, none⟩ (.string y5)).setCell ⟨w.heap.size, 6, none⟩ (.int .i64 x6)).setCell ⟨w.heap.size, 7, none⟩ (.int .i64 x7)).setCell ⟨w.heap.size, 8, none⟩ (.int .i64 x8)).setCell ⟨w.heap.size, 9, none⟩ (.string y9)).setCell ⟨w.heap.size, 10, none⟩ (.slice b10 l10 c10) := ⟨_, rfl⟩
  have hW8 : W9 = putL w2 w.heap.size 0 [.int .i64 x0, .int .i64 x1, .int .i64 x2, .string y3, .string y4, .string y5, .int .i64 x6, .int .i64 x7, .int .i64 x8, .string y9, .slice b10 l10 c10] := hW9
  have HZ9 : Hid (W9.heap[w.heap.size]? = some (.cells #[.int .i64 x0, .int .i64 x1, .int .i64 x2, .string y3, .string y4, .string y5, .int .i64 x6, .int .i64 x7, .int .i64 x8, .string y9, .slice b10 l10 c10] 43)) := by rw [hW8]; exact putL_same HR2.out _ rfl
  have HS9 : Hid (XS w lb tb ob sb N q W9) := by rw [hW8]; exact HS2.out.put (Nat.le_refl _) hll hsl _
  have HE9 : Hid (X.W W9 (fun b => w.heap.size ≤ b ∧ b < W9.heap.size) [.int .i64 x0, .int .i64 x1, .int .i64 x2, .string y3, .string y4, .string y5, .int .i64 x6, .int .i64 x7, .int .i64 x8, .string y9, .slice b10 l10 c10]) := by
    rw [hW8]
    have hz := (putL_below (B := 0) (b := w.heap.size) (w0 := w2) (Nat.zero_le _) [.int .i64 x0, .int .i64 x1, .int .i64 x2, .string y3, .string y4, .string y5, .int .i64 x6, .int .i64 x7, .int .i64 x8, .string y9, .slice b10 l10 c10] w2 0 (Below.refl _ _)).size
    exact Ex.W.keep (fun b q => ⟨by omega, Nat.lt_of_lt_of_le q.2 hz⟩) (fun b q => putL_other (by omega) _ _ _) HE2.out
  rw [← hW9]
  clear hW9 hW8
  obtain ⟨y0', y1', y2', y3', y4', y5', y6', y7', y8', y9', y10', _, _⟩ := bk11 HZ9.out
  exact bodyPost_ret (v := .agg #[.int .i64 x0, .int .i64 x1, .int .i64 x2, .string y3, .string y4, .string y5, .int .i64 x6, .int .i64 x7, .int .i64 x8, .string y9, .slice b10 l10 c10]) (by simp [results, Tryz.results25, go_sem, y0', y1', y2', y3', y4', y5', y6', y7', y8', y9', y10']) rfl ⟨[.int .i64 x0, .int .i64 x1, .int .i64 x2, .string y3, .string y4, .string y5, .int .i64 x6, .int .i64 x7, .int .i64 x8, .string y9, .slice b10 l10 c10], HE9.out, rfl, HS9.out⟩

end Go.Proofs.YtcbpjgnbdpfiiaaGreatDoor
