import Derived.Test.YtbnlekhjgkojlaaGreatDoorRows
import Derived.Test.YtbnlekhjgkojlaaGreatDoorTkStep
import Derived.Test.YtbnlekhjgkojlaaGreatDoorShelf
import Derived.WalkKit
import Derived.WalkSpells
import Derived.WalkLawsBesides
import Derived.Outline
import Derived.Lib.LaidU8T
import Derived.Test.YtbnlekhjgkojlaaGreatDoorTcPlain
import Derived.ProofKit
import Derived.OwnWalk
import Derived.Test.YtbnlekhjgkojlaaGreatDoorProg
import Derived.ChangeSame
import Derived.Laws.Rows
import Derived.BigQuiet
import Derived.Deep.QuietTactic
import Derived.Sort.AtCall
import Derived.Deep.Cut
import Derived.RegionTactic
import Derived.Deep.RegionHeld3
import Derived.Defers
import Derived.Laws.OwnMore
import Derived.Lib.IndexAny
import Derived.Test.YtbnlekhjgkojlaaGreatDoorRg
import Derived.Deep.Strs
import Derived.Deep.Slices
import Derived.SizedLaws
import Derived.Laws.BytesArg
import Derived.WideShapes
import Derived.OpenShut
import Derived.Maps.AppendAt
namespace Go.Proofs.YtbnlekhjgkojlaaGreatDoor
open Go.RowKit Go.Shelf
def Tabs (w : World) : Prop := Lib.Utf8Tabs (Tryz.laysValid_ren.g 3) (Tryz.laysValid_ren.g 4) w
theorem valid_any (s : ByteArray) (w : World) (hs : s.size ≤ 9223372036854775807) (hT : Tabs w) :
 Calls Tryz.prog 78 #[.string s] w fun e w' => e = .returned (.bool (Lib.validD s.data.toList)) ∧ Below w.heap.size w w' :=
 Any.utf8_ValidString Tryz.laysValid s w hs hT
set_option maxHeartbeats 800000 in
theorem checkText_any (s : ByteArray) (w : World) (hs : s.size ≤ maxLen) (hT : Tabs w) :
 Calls Tryz.prog 59 #[.string s] w fun e w' => e = .returned (.int .i64 (textF s)) ∧ Below w.heap.size w w' := by
 unfold maxLen at hs
 have cV := valid_any s w hs hT
 have CV : Hid (Calls Tryz.prog 78 #[.string s] w fun e w' => e = .returned (.bool (Lib.validD s.data.toList)) ∧ Below w.heap.size w w') := cV
 clear cV hT
 by_cases h1 : 20000 < s.size
 · have H' : Hid (textF s = 1) := textF_size h1
   go_enter Tryz.func59, Tryz.ntmps59
   go_wp2
   all_goals
    go_ret
    exact ⟨ret_int H'.out.symm, Below.refl _ _⟩
 · have hhi : s.size ≤ 20000 := by omega
   have H1 : Hid (¬ 20000 < s.size) := h1
   clear h1 hs
   cases hv : Lib.validD s.data.toList
   · have H' : Hid (textF s = 4) := textF_no H1.out (by rw [hv, Bool.false_and])
     go_enter Tryz.func59, Tryz.ntmps59
     go_wp2_with (go_at_call 78; refine CV.out.mono ?_; rintro e w1 ⟨rfl, hb⟩)
     go_ret
     exact ⟨ret_int H'.out.symm, hb⟩
   · have HV : Hid (Lib.validD s.data.toList = true) := hv
     go_enter Tryz.func59, Tryz.ntmps59
     go_wp2_with (go_at_call 78; refine CV.out.mono ?_; rintro e w1 ⟨rfl, hb⟩)
     have HBL : Hid (Below w.heap.size w w1) := hb
     clear hb CV
     go_loop [13] (fun i => ∃ k : Nat, k ≤ s.size ∧ i = .int .i64 k ∧ ctlTo s k = true) (fun i => s.size - (intOf i).toNat)
     case atStart => exact ⟨0, Nat.zero_le _, rfl, rfl⟩
     case round =>
      obtain ⟨k, hk, rfl, hok⟩ := hrel
      have HO : Hid (ctlTo s k = true) := hok
      clear hok
      by_cases hlt : k < s.size
      · have HE : Hid ((s[k].toNat : Int) = byteAt s k) := byteAt_eq s k hlt
        cases hc : ctl (s[k].toNat : Int)
        · have HC : Hid (ctl (byteAt s k) = false) := HE.out ▸ hc
          obtain ⟨c1, c2, c3, c4, c5⟩ := ctl_no hc
          clear hc
          go_wp2
          go_ret
          exact ⟨ret_int (textF_ctl H1.out hlt HC.out).symm, HBL.out⟩
        · have HC : Hid (ctl (byteAt s k) = true) := HE.out ▸ hc
          have hc' := ctl_yes hc
          clear hc
          rcases hc' with c1 | ⟨c1, c2, c3⟩ | ⟨c1, c2, c3, c4, c5⟩
          all_goals
           go_wp2
           go_round
           case rel => exact ⟨k + 1, by omega, by go_num, by rw [ctlTo_succ, HO.out, HC.out]; rfl⟩
           case measure => simp [intOf]; omega
      · go_wp2
        go_ret
        have e : k = s.size := by omega
        exact ⟨ret_int (textF_ok H1.out HV.out (e ▸ HO.out)).symm, HBL.out⟩
set_option linter.unusedVariables false
set_option maxRecDepth 100000
open Go.RowKit
def GrowA (pb : Nat) (w wr : World) : Prop := w.heap.size ≤ wr.heap.size ∧ wr.os = w.os ∧ wr.tape = w.tape ∧ wr.output = w.output ∧ ∀ b, b < w.heap.size → b ≠ pb → wr.heap[b]? = w.heap[b]?
theorem GrowA.refl (pb : Nat) (w : World) : GrowA pb w w := ⟨Nat.le_refl _, rfl, rfl, rfl, fun _ _ _ => rfl⟩
theorem GrowA.below {pb : Nat} {w wr w' : World} (h : GrowA pb w wr) (hb : Below wr.heap.size wr w') : GrowA pb w w' := ⟨Nat.le_trans h.1 hb.size, hb.os.trans h.2.1, hb.tape.trans h.2.2.1, hb.output.trans h.2.2.2.1, fun b h1 h2 => (hb.block b (Nat.lt_of_lt_of_le h1 h.1)).trans (h.2.2.2.2 b h1 h2)⟩
theorem GrowA.trans {pb : Nat} {a b c : World} (h : GrowA pb a b) (h' : GrowA pb b c) : GrowA pb a c := ⟨Nat.le_trans h.1 h'.1, h'.2.1.trans h.2.1, h'.2.2.1.trans h.2.2.1, h'.2.2.2.1.trans h.2.2.2.1, fun k h1 hk => (h'.2.2.2.2 k (Nat.lt_of_lt_of_le h1 h.1) hk).trans (h.2.2.2.2 k h1 hk)⟩
theorem GrowA.alloc {pb : Nat} {w wr : World} (h : GrowA pb w wr) (o : Obj) : GrowA pb w (wr.alloc o) := h.below ((Below.refl _ _).alloc (Nat.le_refl _) o)
theorem GrowA.drew {pb : Nat} {w wr : World} (h : GrowA pb w wr) : GrowA pb w wr.drew := h
theorem GrowA.set {pb : Nat} {w wr : World} (h : GrowA pb w wr) (t : Nat) (u : Value) : GrowA pb w (wr.setCell ⟨pb, t, none⟩ u) := ⟨by simpa using h.1, h.2.1, h.2.2.1, h.2.2.2.1, fun b h1 h2 => (Below.heap_setCell _ _ _ _ (by simpa using h2)).trans (h.2.2.2.2 b h1 h2)⟩
theorem GrowA.low {pb : Nat} {w w' : World} (h : GrowA pb w w') (hp : pb ≤ w.heap.size) : Below pb w w' := ⟨h.2.1, h.2.2.1, h.2.2.2.1, h.1, fun b hb => h.2.2.2.2 b (by omega) (by omega)⟩
theorem GrowA.cell {pb : Nat} {w w' : World} (h : GrowA pb w w') {b k : Nat} (hb : b < w.heap.size) (hn : b ≠ pb) : w'.cell? ⟨b, k, none⟩ = w.cell? ⟨b, k, none⟩ := World.cell?_of_block (h.2.2.2.2 b hb hn)
def ToksL (w : World) (b : Nat) (L : List Tok) : Prop := ∀ k (hk : k < L.length), w.cell? ⟨b, k * 3, none⟩ = some (.int .i64 L[k].kind) ∧ w.cell? ⟨b, k * 3 + 1, none⟩ = some (.string L[k].s) ∧ w.cell? ⟨b, k * 3 + 2, none⟩ = some (.int .i64 L[k].n)
theorem ToksL.grow {pb : Nat} {w w' : World} {b : Nat} {L : List Tok} (h : ToksL w b L) (hg : GrowA pb w w') (hb : b < w.heap.size) (hn : b ≠ pb) : ToksL w' b L := fun k hk => by
 obtain ⟨h1, h2, h3⟩ := h k hk
 exact ⟨(hg.cell hb hn).trans h1, (hg.cell hb hn).trans h2, (hg.cell hb hn).trans h3⟩
structure Pst where
 at' : Nat
 opn : Nat
 wrong : Int
structure PaS (w : World) (pb b c : Nat) (T : List Tok) (st : Pst) : Prop where
 l : w.cell? ⟨pb, 0, none⟩ = some (.slice (some ⟨b, 0, none⟩) T.length c)
 a : w.cell? ⟨pb, 1, none⟩ = some (.int .i64 st.at')
 o : w.cell? ⟨pb, 2, none⟩ = some (.int .i64 st.opn)
 e : w.cell? ⟨pb, 3, none⟩ = some (.int .i64 st.wrong)
 fa : w.frozen? ⟨pb, 1, none⟩ = false
 fo : w.frozen? ⟨pb, 2, none⟩ = false
 fe : w.frozen? ⟨pb, 3, none⟩ = false
 pl : pb < w.heap.size
 bl : b < w.heap.size
 ne : b ≠ pb
 ts : ToksL w b T
theorem PaS.below {w w' : World} {pb b c : Nat} {T : List Tok} {st : Pst} (h : PaS w pb b c T st) (hb : Below w.heap.size w w') : PaS w' pb b c T st :=
 ⟨(hb.cell (p := ⟨pb, 0, none⟩) h.pl).trans h.l, (hb.cell (p := ⟨pb, 1, none⟩) h.pl).trans h.a, (hb.cell (p := ⟨pb, 2, none⟩) h.pl).trans h.o, (hb.cell (p := ⟨pb, 3, none⟩) h.pl).trans h.e, (hb.frozen (p := ⟨pb, 1, none⟩) h.pl).trans h.fa, (hb.frozen (p := ⟨pb, 2, none⟩) h.pl).trans h.fo, (hb.frozen (p := ⟨pb, 3, none⟩) h.pl).trans h.fe, Nat.lt_of_lt_of_le h.pl hb.size, Nat.lt_of_lt_of_le h.bl hb.size, h.ne, fun k hk => by
  obtain ⟨h1, h2, h3⟩ := h.ts k hk
  exact ⟨(hb.cell (p := ⟨b, _, none⟩) h.bl).trans h1, (hb.cell (p := ⟨b, _, none⟩) h.bl).trans h2, (hb.cell (p := ⟨b, _, none⟩) h.bl).trans h3⟩⟩
theorem PaS.drewI {w : World} {pb b c : Nat} {T : List Tok} {st : Pst} (h : PaS w pb b c T st) : PaS w.drew pb b c T st := h.below (Below.refl _ _).drew
theorem PaS.allocI {w : World} {pb b c : Nat} {T : List Tok} {st : Pst} (h : PaS w pb b c T st) (o : Obj) : PaS (w.alloc o) pb b c T st := h.below ((Below.refl _ _).alloc (Nat.le_refl _) o)
theorem PaS.toksSet {w : World} {pb b c : Nat} {T : List Tok} {st : Pst} (h : PaS w pb b c T st) (t : Nat) (u : Value) : ToksL (w.setCell ⟨pb, t, none⟩ u) b T := h.ts.grow ((GrowA.refl pb w).set t u) h.bl h.ne
theorem PaS.setA {w : World} {pb b c : Nat} {T : List Tok} {st : Pst} (h : PaS w pb b c T st) (n : Nat) : PaS (w.setCell ⟨pb, 1, none⟩ (.int .i64 n)) pb b c T { st with at' := n } :=
 ⟨by simp [go_sem, h.l], by simp [go_sem, h.a], by simp [go_sem, h.o], by simp [go_sem, h.e], by simp [go_sem, h.fa], by simp [go_sem, h.fo], by simp [go_sem, h.fe], by simpa using h.pl, by simpa using h.bl, h.ne, h.toksSet _ _⟩
theorem PaS.setO {w : World} {pb b c : Nat} {T : List Tok} {st : Pst} (h : PaS w pb b c T st) (n : Nat) : PaS (w.setCell ⟨pb, 2, none⟩ (.int .i64 n)) pb b c T { st with opn := n } :=
 ⟨by simp [go_sem, h.l], by simp [go_sem, h.a], by simp [go_sem, h.o], by simp [go_sem, h.e], by simp [go_sem, h.fa], by simp [go_sem, h.fo], by simp [go_sem, h.fe], by simpa using h.pl, by simpa using h.bl, h.ne, h.toksSet _ _⟩
theorem PaS.setE {w : World} {pb b c : Nat} {T : List Tok} {st : Pst} (h : PaS w pb b c T st) (n : Int) : PaS (w.setCell ⟨pb, 3, none⟩ (.int .i64 n)) pb b c T { st with wrong := n } :=
 ⟨by simp [go_sem, h.l], by simp [go_sem, h.a], by simp [go_sem, h.o], by simp [go_sem, h.e], by simp [go_sem, h.fa], by simp [go_sem, h.fo], by simp [go_sem, h.fe], by simpa using h.pl, by simpa using h.bl, h.ne, h.toksSet _ _⟩
def seeM (T : List Tok) (st : Pst) (a : Nat) : Tok := if st.wrong ≠ 0 ∨ T.length ≤ st.at' + a then tok0 else T.getD (st.at' + a) tok0
def eqT (t u : Tok) : Bool := decide (t.kind = u.kind) && decide (t.s = u.s) && decide (t.n = u.n)
def skipM (T : List Tok) (st : Pst) (t : Tok) : Bool × Pst := if eqT (seeM T st 0) t = true then (true, { st with at' := st.at' + 1 }) else (false, st)
def failM (st : Pst) (e : Int) : Pst := if st.wrong = 0 then { st with wrong := e } else st
def missM (T : List Tok) (st : Pst) : Pst := if st.at' = T.length then failM st 5 else failM st 4
def wantM (T : List Tok) (st : Pst) (t : Tok) : Pst := if (skipM T st t).1 = true then (skipM T st t).2 else missM T (skipM T st t).2
def enterM (T : List Tok) (st : Pst) (begins : Bool) : Pst :=
 let st' := if 30 ≤ st.opn then failM (if begins = true then st else missM T st) 8 else st
 { st' with opn := st'.opn + 1 }
open Go.RowKit
theorem below_drewA {B : Nat} {a w : World} (h : Below B a w) (q : Nat) : Below B a (w.drewN q) := ⟨h.os, h.tape, h.output, h.size, h.block⟩
theorem below_setA {B r : Nat} {a w : World} (h : Below B a w) (hr : B ≤ r) (k : Nat) (v : Value) : Below B a (w.setCell ⟨r, k, none⟩ v) := ⟨h.os, h.tape, h.output, by simpa using h.size, fun x hx => (Below.heap_setCell _ _ _ _ (by simp; omega)).trans (h.block x hx)⟩
theorem seeM_wrong {T : List Tok} {st : Pst} {a : Nat} (h : ¬ st.wrong = 0) : seeM T st a = tok0 := by unfold seeM; rw [if_pos (.inl h)]
theorem seeM_end {T : List Tok} {st : Pst} {a : Nat} (h : T.length ≤ st.at' + a) : seeM T st a = tok0 := by unfold seeM; rw [if_pos (.inr h)]
theorem seeM_at {T : List Tok} {st : Pst} {a : Nat} (h : st.wrong = 0) (hl : st.at' + a < T.length) : seeM T st a = T[st.at' + a] := by
 unfold seeM
 rw [if_neg (by omega), List.getD_eq_getElem?_getD, List.getElem?_eq_getElem hl]
 rfl
set_option maxHeartbeats 1600000 in
theorem see_is {w : World} {pb b c : Nat} {T : List Tok} {st : Pst} (h : PaS w pb b c T st) (a : Nat) (ha : a ≤ 2) (hT : T.length ≤ 200) (hat : st.at' ≤ 400) :
 Calls Tryz.prog 65 #[.pointer (some ⟨pb, 0, none⟩), .int .i64 a] w fun e w' => e = .returned (.agg #[.int .i64 (seeM T st a).kind, .string (seeM T st a).s, .int .i64 (seeM T st a).n]) ∧ Below w.heap.size w w' := by
 obtain ⟨x0, x1, x2, x3, f1, f2, f3, hp, hb, hne, hts⟩ := h
 by_cases hw : st.wrong = 0
 · by_cases hl : st.at' + a < T.length
   · rw [seeM_at hw hl]
     obtain ⟨t0, t1, t2⟩ := hts _ hl
     generalize T[st.at' + a] = t at t0 t1 t2
     obtain ⟨tk, ts, tn⟩ := t
     simp only at t0 t1 t2
     rw [hw] at x3
     obtain ⟨n, hn⟩ : ∃ n : Nat, n = st.at' + a := ⟨_, rfl⟩
     rw [← hn] at t0 t1 t2 hl
     have hwr : IntKind.i64.wrap ((st.at' : Int) + (a : Int)) = (n : Int) := by rw [hn]; rw [IntWalk.i64_in _ (by omega)]; simp
     have hge : ¬ ((T.length : Int) ≤ (n : Int)) := by omega
     have hlt : (n : Int) < (T.length : Int) := by omega
     generalize st.at' = at0 at *
     clear hts hn hw x2 f1 f2 f3
     go_enter Tryz.func65, Tryz.ntmps65
     go_upto_region 1 with fail
     go_quiet (fail)
     obtain ⟨W1, hW1⟩ : ∃ W, W = (w.alloc (.cells #[.int .i64 0, .string ⟨#[]⟩, .int .i64 0] 41)).drewN nq := ⟨_, rfl⟩
     have hb1 : Below w.heap.size w W1 := by rw [hW1]; exact below_drewA ((Below.refl _ _).alloc (Nat.le_refl _) _) nq
     have y0 := (hb1.cell (p := ⟨pb, 0, none⟩) hp).trans x0
     have y1 := (hb1.cell (p := ⟨pb, 1, none⟩) hp).trans x1
     have u0 := (hb1.cell (p := ⟨b, n * 3, none⟩) hb).trans t0
     have u1 := (hb1.cell (p := ⟨b, n * 3 + 1, none⟩) hb).trans t1
     have u2 := (hb1.cell (p := ⟨b, n * 3 + 2, none⟩) hb).trans t2
     have r0 : W1.cell? ⟨w.heap.size, 0, none⟩ = some (.int .i64 0) := by rw [hW1]; show (w.alloc _).cell? _ = _; simp
     have r1 : W1.cell? ⟨w.heap.size, 1, none⟩ = some (.string ⟨#[]⟩) := by rw [hW1]; show (w.alloc _).cell? _ = _; simp
     have r2 : W1.cell? ⟨w.heap.size, 2, none⟩ = some (.int .i64 0) := by rw [hW1]; show (w.alloc _).cell? _ = _; simp
     have g0 : W1.frozen? ⟨w.heap.size, 0, none⟩ = false := by rw [hW1]; show (w.alloc _).frozen? _ = _; simp
     have g1 : W1.frozen? ⟨w.heap.size, 1, none⟩ = false := by rw [hW1]; show (w.alloc _).frozen? _ = _; simp
     have g2 : W1.frozen? ⟨w.heap.size, 2, none⟩ = false := by rw [hW1]; show (w.alloc _).frozen? _ = _; simp
     have HB1 : Hid (Below w.heap.size w W1) := hb1
     rw [← hW1]
     obtain ⟨r, hr⟩ : ∃ r, r = w.heap.size := ⟨_, rfl⟩
     have hrl : r < W1.heap.size := by rw [hr, hW1]; show w.heap.size < (w.alloc _).heap.size; simp
     have hpr : pb ≠ r := by omega
     have hbr : b ≠ r := by omega
     rw [← hr] at r0 r1 r2 g0 g1 g2 ⊢
     have HR : Hid (r = w.heap.size) := hr
     clear hW1 hb1 x0 x1 x3 t0 t1 t2 hr
     go_upto_region 3 with fail
     go_region
     go_wp2
     refine bodyPost_ret (v := .agg #[.int .i64 tk, .string ts, .int .i64 tn]) (by simp [results, Tryz.results65, go_sem, r0, r1, r2]) rfl ⟨rfl, ?_⟩
     exact Below.drew (below_setA (below_setA (below_setA HB1.out (by have := HR.out; omega) _ _) (by have := HR.out; omega) _ _) (by have := HR.out; omega) _ _)
   · rw [seeM_end (by omega)]
     rw [hw] at x3
     obtain ⟨n, hn⟩ : ∃ n : Nat, n = st.at' + a := ⟨_, rfl⟩
     have hwr : IntKind.i64.wrap ((st.at' : Int) + (a : Int)) = (n : Int) := by rw [hn]; rw [IntWalk.i64_in _ (by omega)]; simp
     have hge : (T.length : Int) ≤ (n : Int) := by omega
     generalize st.at' = at0 at *
     clear hts hw x2 f1 f2 f3 hl hn
     go_enter Tryz.func65, Tryz.ntmps65
     go_upto_region 1 with fail
     go_quiet (fail)
     go_wp2
     refine bodyPost_ret (v := .agg #[.int .i64 0, .string ⟨#[]⟩, .int .i64 0]) (by simp [results, Tryz.results65, go_sem]) rfl ⟨rfl, ?_⟩
     exact below_setA (below_setA (below_setA (below_drewA ((Below.refl _ _).alloc (Nat.le_refl _) _) nq) (Nat.le_refl _) _ _) (Nat.le_refl _) _ _) (Nat.le_refl _) _ _
 · rw [seeM_wrong hw]
   have hwb : (st.wrong != 0) = true := by rw [bne_iff_ne]; exact hw
   generalize st.wrong = e0 at *
   clear hts x2 f1 f2 f3 x0 x1
   go_enter Tryz.func65, Tryz.ntmps65
   go_upto_region 1 with fail
   go_quiet (fail)
   go_wp2
   refine bodyPost_ret (v := .agg #[.int .i64 0, .string ⟨#[]⟩, .int .i64 0]) (by simp [results, Tryz.results65, go_sem]) rfl ⟨rfl, ?_⟩
   exact below_setA (below_setA (below_setA (below_drewA ((Below.refl _ _).alloc (Nat.le_refl _) _) nq) (Nat.le_refl _) _ _) (Nat.le_refl _) _ _) (Nat.le_refl _) _ _
open Go.RowKit
theorem mark_is (s : ByteArray) (w : World) : Calls Tryz.prog 66 #[.string s] w fun e w' => e = .returned (.agg #[.int .i64 5, .string s, .int .i64 0]) ∧ Below w.heap.size w w' := by
 go_enter Tryz.func66, Tryz.ntmps66
 go_wp2
 refine bodyPost_ret (v := .agg #[.int .i64 5, .string s, .int .i64 0]) (by simp [results, Tryz.results66, go_sem]) rfl ⟨rfl, ?_⟩
 repeat (first | exact Below.refl _ _ | refine Below.alloc ?_ (Nat.le_refl _) _)
theorem word_is (s : ByteArray) (w : World) : Calls Tryz.prog 81 #[.string s] w fun e w' => e = .returned (.agg #[.int .i64 1, .string s, .int .i64 0]) ∧ Below w.heap.size w w' := by
 go_enter Tryz.func81, Tryz.ntmps81
 go_wp2
 refine bodyPost_ret (v := .agg #[.int .i64 1, .string s, .int .i64 0]) (by simp [results, Tryz.results81, go_sem]) rfl ⟨rfl, ?_⟩
 repeat (first | exact Below.refl _ _ | refine Below.alloc ?_ (Nat.le_refl _) _)
theorem fail_is {w : World} {pb b c : Nat} {T : List Tok} {st : Pst} (h : PaS w pb b c T st) (e0 : Int) :
 Calls Tryz.prog 45 #[.pointer (some ⟨pb, 0, none⟩), .int .i64 e0] w fun e w' => e = .returned (.tuple #[]) ∧ PaS w' pb b c T (failM st e0) ∧ GrowA pb w w' := by
 have H : Hid (PaS w pb b c T st) := h
 obtain ⟨x0, x1, x2, x3, f1, f2, f3, hp, hb, hne, hts⟩ := h
 clear x0 x1 x2 f1 f2 hts
 unfold failM
 by_cases hw : st.wrong = 0
 · rw [if_pos hw]
   rw [hw] at x3
   clear hw
   go_enter Tryz.func45, Tryz.ntmps45
   go_wp2
   first
    | (go_end0; exact ⟨rfl, H.out.setE e0, (GrowA.refl _ _).set 3 _⟩)
    | (refine bodyPost_ret (v := .tuple #[]) (by simp [results, Tryz.results45, go_sem]) rfl ⟨rfl, H.out.setE e0, (GrowA.refl _ _).set 3 _⟩)
 · rw [if_neg hw]
   have hwb : (st.wrong == 0) = false := by rw [beq_eq_false_iff_ne]; exact hw
   generalize hq : st.wrong = q at x3 hw hwb
   go_enter Tryz.func45, Tryz.ntmps45
   go_wp2
   first
    | (go_end0; exact ⟨rfl, H.out, GrowA.refl _ _⟩)
    | (refine bodyPost_ret (v := .tuple #[]) (by simp [results, Tryz.results45, go_sem]) rfl ⟨rfl, H.out, GrowA.refl _ _⟩)
theorem miss_is {w : World} {pb b c : Nat} {T : List Tok} {st : Pst} (h : PaS w pb b c T st) :
 Calls Tryz.prog 19 #[.pointer (some ⟨pb, 0, none⟩)] w fun e w' => e = .returned (.tuple #[]) ∧ PaS w' pb b c T (missM T st) ∧ GrowA pb w w' := by
 have CF : Hid (∀ q e0, Calls Tryz.prog 45 #[.pointer (some ⟨pb, 0, none⟩), .int .i64 e0] (w.drewN q) fun e w' => e = .returned (.tuple #[]) ∧ PaS w' pb b c T (failM st e0) ∧ GrowA pb w w') := fun q e0 => (fail_is (h.below (below_drewA (Below.refl _ _) q)) e0).mono fun e w' ⟨k1, k2, k3⟩ => ⟨k1, k2, k3⟩
 obtain ⟨x0, x1, x2, x3, f1, f2, f3, hp, hb, hne, hts⟩ := h
 clear x2 x3 f1 f2 f3 hts
 unfold missM
 by_cases ha : st.at' = T.length
 · rw [if_pos ha]
   rw [ha] at x1
   clear ha
   go_enter Tryz.func19, Tryz.ntmps19
   go_upto_region 0 with fail
   go_quiet (fail)
   go_wp2_with (first | (go_at_call 45; refine (CF.out _ _).mono ?_; rintro e w1 ⟨rfl, hp1, hg1⟩))
   first
    | (go_end0; exact ⟨rfl, hp1, hg1⟩)
    | (refine bodyPost_ret (v := .tuple #[]) (by simp [results, Tryz.results19, go_sem]) rfl ⟨rfl, hp1, hg1⟩)
 · rw [if_neg ha]
   have hab : ((st.at' : Int) == (T.length : Int)) = false := by rw [beq_eq_false_iff_ne]; omega
   generalize st.at' = q at x1 ha hab
   go_enter Tryz.func19, Tryz.ntmps19
   go_upto_region 0 with fail
   go_quiet (fail)
   go_wp2_with (first | (go_at_call 45; refine (CF.out _ _).mono ?_; rintro e w1 ⟨rfl, hp1, hg1⟩))
   first
    | (go_end0; exact ⟨rfl, hp1, hg1⟩)
    | (refine bodyPost_ret (v := .tuple #[]) (by simp [results, Tryz.results19, go_sem]) rfl ⟨rfl, hp1, hg1⟩)
theorem neqT {t u : Tok} (h : ¬ eqT t u = true) : (t.kind == u.kind) = false ∨ (u.kind = t.kind ∧ (t.s.toList == u.s.toList) = false) ∨ (u.kind = t.kind ∧ u.s = t.s ∧ (t.n == u.n) = false) := by
 by_cases h1 : t.kind = u.kind
 · by_cases h2 : t.s = u.s
   · refine .inr (.inr ⟨h1.symm, h2.symm, ?_⟩)
     rw [beq_eq_false_iff_ne]
     intro h3
     exact h (by unfold eqT; rw [decide_eq_true h1, decide_eq_true h2, decide_eq_true h3]; rfl)
   · refine .inr (.inl ⟨h1.symm, ?_⟩)
     rw [beq_eq_false_iff_ne]
     intro h3
     rw [ByteArray.toList_eq, ByteArray.toList_eq] at h3
     apply h2
     cases ht : t.s; cases hu : u.s
     rw [ht, hu] at h3
     congr 1
     exact Array.toList_inj.1 h3
 · exact .inl (by rw [beq_eq_false_iff_ne]; exact h1)
set_option maxHeartbeats 1600000 in
theorem skip_is {w : World} {pb b c : Nat} {T : List Tok} {st : Pst} (h : PaS w pb b c T st) (t : Tok) (hT : T.length ≤ 200) (hat : st.at' ≤ 300) :
 Calls Tryz.prog 69 #[.pointer (some ⟨pb, 0, none⟩), .agg #[.int .i64 t.kind, .string t.s, .int .i64 t.n]] w fun e w' => e = .returned (.bool (skipM T st t).1) ∧ PaS w' pb b c T (skipM T st t).2 ∧ GrowA pb w w' := by
 have HS : Hid (PaS w pb b c T st) := h
 obtain ⟨W1, hW1⟩ : ∃ W, W = w.alloc (.cells #[.int .i64 t.kind, .string t.s, .int .i64 t.n] 41) := ⟨_, rfl⟩
 have HB1 : Hid (Below w.heap.size w W1) := by rw [hW1]; exact (Below.refl _ _).alloc (Nat.le_refl _) _
 have r0 : W1.cell? ⟨w.heap.size, 0, none⟩ = some (.int .i64 t.kind) := by rw [hW1]; simp
 have r1 : W1.cell? ⟨w.heap.size, 1, none⟩ = some (.string t.s) := by rw [hW1]; simp
 have r2 : W1.cell? ⟨w.heap.size, 2, none⟩ = some (.int .i64 t.n) := by rw [hW1]; simp
 have hrl : w.heap.size < W1.heap.size := by rw [hW1]; simp
 have HSS : Hid (∀ W, Below W1.heap.size W1 W → W.cell? ⟨w.heap.size, 0, none⟩ = some (.int .i64 t.kind) ∧ W.cell? ⟨w.heap.size, 1, none⟩ = some (.string t.s) ∧ W.cell? ⟨w.heap.size, 2, none⟩ = some (.int .i64 t.n)) := fun W hb => ⟨(hb.cell (p := ⟨w.heap.size, 0, none⟩) hrl).trans r0, (hb.cell (p := ⟨w.heap.size, 1, none⟩) hrl).trans r1, (hb.cell (p := ⟨w.heap.size, 2, none⟩) hrl).trans r2⟩
 have CS : Hid (∀ W, Below W1.heap.size W1 W → Calls Tryz.prog 65 #[.pointer (some ⟨pb, 0, none⟩), .int .i64 0] W fun e w' => e = .returned (.agg #[.int .i64 (seeM T st 0).kind, .string (seeM T st 0).s, .int .i64 (seeM T st 0).n]) ∧ Below W1.heap.size W1 w') := fun W hW => (see_is ((h.below HB1.out).below hW) 0 (by omega) hT (by omega)).mono fun e w' ⟨k1, k2⟩ => ⟨k1, hW.trans (k2.mono hW.size)⟩
 unfold skipM
 generalize seeM T st 0 = u at CS
 obtain ⟨uk, us, un⟩ := u
 obtain ⟨tk, ts, tn⟩ := t
 simp only at r0 r1 r2 CS HSS hW1 ⊢
 clear r0 r1 r2 h
 by_cases he : eqT ⟨uk, us, un⟩ ⟨tk, ts, tn⟩ = true
 · rw [if_pos he]
   simp only [eqT, Bool.and_eq_true, decide_eq_true_eq] at he
   obtain ⟨⟨rfl, rfl⟩, rfl⟩ := he
   go_enter Tryz.func69, Tryz.ntmps69
   go_upto_region 1 with fail
   rw [← hW1]
   clear hW1
   go_region_held3 (fun W => W.cell? ⟨w.heap.size, 0, none⟩ = some (.int .i64 uk) ∧ W.cell? ⟨w.heap.size, 1, none⟩ = some (.string us) ∧ W.cell? ⟨w.heap.size, 2, none⟩ = some (.int .i64 un))
    ((refine HSS.out _ ?_; repeat (first | exact Hid.out (by assumption) | exact Below.refl _ _ | refine Below.drew ?_)))
    (first
     | (go_at_call 65; refine (CS.out _ ?_).mono ?_; (focus (repeat (first | exact Below.refl _ _ | refine Below.drew ?_))); rintro e w2 ⟨rfl, hb2⟩; have HB2 : Hid (Below W1.heap.size W1 w2) := hb2; clear hb2))
   have HB3 : Hid (Below w.heap.size w w2) := HB1.out.trans (HB2.out.mono HB1.out.size)
   have HP3 : Hid (PaS w2 pb b c T st) := HS.out.below HB3.out
   obtain ⟨x0, x1, x2, x3, f1, f2, f3, hp, hb, hne, hts⟩ := HP3.out
   have hwr : IntKind.i64.wrap ((st.at' : Int) + 1) = ((st.at' + 1 : Nat) : Int) := by rw [IntWalk.i64_in _ (by omega)]; simp
   have HF : Hid (PaS (w2.setCell ⟨pb, 1, none⟩ (.int .i64 ((st.at' + 1 : Nat) : Int))) pb b c T { st with at' := st.at' + 1 }) := HP3.out.setA _
   generalize ((st.at' + 1 : Nat) : Int) = q1 at hwr HF
   clear x0 x2 x3 f2 f3 hts
   go_wp2
   go_ret
   exact ⟨rfl, HF.out, ((GrowA.refl _ _).below HB3.out).set 1 _⟩
 · rw [if_neg he]
   have hd := neqT he
   clear he
   simp only at hd
   rcases hd with hd | ⟨rfl, hd⟩ | ⟨rfl, rfl, hd⟩
   · skip
     go_enter Tryz.func69, Tryz.ntmps69
     go_upto_region 1 with fail
     rw [← hW1]
     clear hW1
     go_region_held3 (fun W => W.cell? ⟨w.heap.size, 0, none⟩ = some (.int .i64 tk) ∧ W.cell? ⟨w.heap.size, 1, none⟩ = some (.string ts) ∧ W.cell? ⟨w.heap.size, 2, none⟩ = some (.int .i64 tn))
      ((refine HSS.out _ ?_; repeat (first | exact Hid.out (by assumption) | exact Below.refl _ _ | refine Below.drew ?_)))
      (first
       | (go_at_call 65; refine (CS.out _ ?_).mono ?_; (focus (repeat (first | exact Below.refl _ _ | refine Below.drew ?_))); rintro e w2 ⟨rfl, hb2⟩; have HB2 : Hid (Below W1.heap.size W1 w2) := hb2; clear hb2))
     all_goals
      have HB3 : Hid (Below w.heap.size w w2) := HB1.out.trans (HB2.out.mono HB1.out.size)
      go_wp2
      go_ret
      exact ⟨rfl, HS.out.below HB3.out, (GrowA.refl _ _).below HB3.out⟩
   · skip
     go_enter Tryz.func69, Tryz.ntmps69
     go_upto_region 1 with fail
     rw [← hW1]
     clear hW1
     go_region_held3 (fun W => W.cell? ⟨w.heap.size, 0, none⟩ = some (.int .i64 tk) ∧ W.cell? ⟨w.heap.size, 1, none⟩ = some (.string ts) ∧ W.cell? ⟨w.heap.size, 2, none⟩ = some (.int .i64 tn))
      ((refine HSS.out _ ?_; repeat (first | exact Hid.out (by assumption) | exact Below.refl _ _ | refine Below.drew ?_)))
      (first
       | (go_at_call 65; refine (CS.out _ ?_).mono ?_; (focus (repeat (first | exact Below.refl _ _ | refine Below.drew ?_))); rintro e w2 ⟨rfl, hb2⟩; have HB2 : Hid (Below W1.heap.size W1 w2) := hb2; clear hb2))
     all_goals
      have HB3 : Hid (Below w.heap.size w w2) := HB1.out.trans (HB2.out.mono HB1.out.size)
      go_wp2
      go_ret
      exact ⟨rfl, HS.out.below HB3.out, (GrowA.refl _ _).below HB3.out⟩
   · skip
     go_enter Tryz.func69, Tryz.ntmps69
     go_upto_region 1 with fail
     rw [← hW1]
     clear hW1
     go_region_held3 (fun W => W.cell? ⟨w.heap.size, 0, none⟩ = some (.int .i64 tk) ∧ W.cell? ⟨w.heap.size, 1, none⟩ = some (.string ts) ∧ W.cell? ⟨w.heap.size, 2, none⟩ = some (.int .i64 tn))
      ((refine HSS.out _ ?_; repeat (first | exact Hid.out (by assumption) | exact Below.refl _ _ | refine Below.drew ?_)))
      (first
       | (go_at_call 65; refine (CS.out _ ?_).mono ?_; (focus (repeat (first | exact Below.refl _ _ | refine Below.drew ?_))); rintro e w2 ⟨rfl, hb2⟩; have HB2 : Hid (Below W1.heap.size W1 w2) := hb2; clear hb2))
     all_goals
      have HB3 : Hid (Below w.heap.size w w2) := HB1.out.trans (HB2.out.mono HB1.out.size)
      go_wp2
      go_ret
      exact ⟨rfl, HS.out.below HB3.out, (GrowA.refl _ _).below HB3.out⟩
open Go.RowKit
set_option maxHeartbeats 800000 in
theorem want_is {w : World} {pb b c : Nat} {T : List Tok} {st : Pst} (h : PaS w pb b c T st) (t : Tok) (hT : T.length ≤ 200) (hat : st.at' ≤ 300) :
 Calls Tryz.prog 96 #[.pointer (some ⟨pb, 0, none⟩), .agg #[.int .i64 t.kind, .string t.s, .int .i64 t.n]] w fun e w' => e = .returned (.tuple #[]) ∧ PaS w' pb b c T (wantM T st t) ∧ GrowA pb w w' := by
 have CS : Hid (∀ o, Calls Tryz.prog 69 #[.pointer (some ⟨pb, 0, none⟩), .agg #[.int .i64 t.kind, .string t.s, .int .i64 t.n]] (w.alloc o) fun e w' => e = .returned (.bool (skipM T st t).1) ∧ PaS w' pb b c T (skipM T st t).2 ∧ GrowA pb w w') := fun o => (skip_is (h.allocI o) t hT hat).mono fun e w' ⟨k1, k2, k3⟩ => ⟨k1, k2, ((GrowA.refl _ _).alloc o).trans k3⟩
 unfold wantM
 generalize skipM T st t = r at CS
 obtain ⟨rb, rs⟩ := r
 obtain ⟨tk, ts, tn⟩ := t
 simp only at CS ⊢
 clear h
 cases rb
 · rw [if_neg (by decide)]
   go_enter Tryz.func96, Tryz.ntmps96
   go_wp2_with (first
    | (go_at_call 69; refine (CS.out _).mono ?_; rintro e w1 ⟨rfl, hp1, hg1⟩; have HP1 : Hid (PaS w1 pb b c T rs) := hp1; have HG1 : Hid (GrowA pb w w1) := hg1; clear hp1 hg1)
    | (go_at_call 19; refine (miss_is HP1.out).mono ?_; rintro e w2 ⟨rfl, hp2, hg2⟩))
   first
    | (go_end0; exact ⟨rfl, hp2, HG1.out.trans hg2⟩)
    | (refine bodyPost_ret (v := .tuple #[]) (by simp [results, Tryz.results96, go_sem]) rfl ⟨rfl, hp2, HG1.out.trans hg2⟩)
 · rw [if_pos rfl]
   go_enter Tryz.func96, Tryz.ntmps96
   go_wp2_with (first
    | (go_at_call 69; refine (CS.out _).mono ?_; rintro e w1 ⟨rfl, hp1, hg1⟩; have HP1 : Hid (PaS w1 pb b c T rs) := hp1; have HG1 : Hid (GrowA pb w w1) := hg1; clear hp1 hg1))
   first
    | (go_end0; exact ⟨rfl, HP1.out, HG1.out⟩)
    | (refine bodyPost_ret (v := .tuple #[]) (by simp [results, Tryz.results96, go_sem]) rfl ⟨rfl, HP1.out, HG1.out⟩)
def Leave (w : World) (pb q : Nat) : Prop := w.cell? ⟨q, 0, none⟩ = some (.pointer (some ⟨pb, 0, none⟩)) ∧ q < w.heap.size ∧ q ≠ pb
theorem Leave.grow {w w' : World} {pb q : Nat} (h : Leave w pb q) (hg : GrowA pb w w') : Leave w' pb q := ⟨(hg.cell h.2.1 h.2.2).trans h.1, Nat.lt_of_lt_of_le h.2.1 hg.1, h.2.2⟩
theorem failM_opn {st : Pst} {e : Int} : (failM st e).opn = st.opn := by unfold failM; split <;> rfl
theorem missM_opn {T : List Tok} {st : Pst} : (missM T st).opn = st.opn := by unfold missM; split <;> exact failM_opn
theorem PaS.ofO {w : World} {pb b c n : Nat} {T : List Tok} {st : Pst} (h : PaS w pb b c T st) (hn : st.opn + 1 = n) : PaS (w.setCell ⟨pb, 2, none⟩ (.int .i64 n)) pb b c T { st with opn := st.opn + 1 } := by
 rw [hn]; exact h.setO n
set_option maxHeartbeats 1600000 in
theorem penter_is {w : World} {pb b c : Nat} {T : List Tok} {st : Pst} (h : PaS w pb b c T st) (begins : Bool) (ho : st.opn ≤ 100) :
 Calls Tryz.prog 42 #[.pointer (some ⟨pb, 0, none⟩), .bool begins] w fun e w' => ∃ q, e = .returned (.func (.func 64) #[] #[.pointer (some ⟨q, 0, none⟩)]) ∧ Leave w' pb q ∧ PaS w' pb b c T (enterM T st begins) ∧ GrowA pb w w' ∧ w.heap.size ≤ q := by
 have hmf : ∀ (fn : Fn) (first cap : Array Value) (w : World), (Instr.makeFunc fn first cap).run Tryz.prog w = .ok (.func fn first cap) w := fun _ _ _ _ => rfl
 obtain ⟨W1, hW1⟩ : ∃ W, W = w.alloc (.cells #[.pointer (some ⟨pb, 0, none⟩)] 84) := ⟨_, rfl⟩
 have HB1 : Hid (GrowA pb w W1) := by rw [hW1]; exact (GrowA.refl _ _).alloc _
 have HP1 : Hid (PaS W1 pb b c T st) := by rw [hW1]; exact h.allocI _
 have HL1 : Hid (Leave W1 pb w.heap.size) := by rw [hW1]; exact ⟨by simp, by simp, by have := h.pl; omega⟩
 have hq1 := HL1.out.1
 have ho1 := HP1.out.o
 have hf1 := HP1.out.fo
 have hl1 := HL1.out.2.1
 have hwr : IntKind.i64.wrap ((st.opn : Int) + 1) = ((st.opn + 1 : Nat) : Int) := by rw [IntWalk.i64_in _ (by omega)]; simp
 obtain ⟨q1, hq⟩ : ∃ q : Nat, q = st.opn + 1 := ⟨_, rfl⟩
 rw [← hq] at hwr
 unfold enterM
 simp only
 clear h
 by_cases h30 : 30 ≤ st.opn
 · rw [if_pos h30]
   have h30i : (30 : Int) ≤ (st.opn : Int) := by omega
   cases begins
   · rw [if_neg (by decide)]
     have C1 : Hid (Calls Tryz.prog 19 #[.pointer (some ⟨pb, 0, none⟩)] W1 fun e w' => e = .returned (.tuple #[]) ∧ PaS w' pb b c T (missM T st) ∧ GrowA pb W1 w') := miss_is HP1.out
     have HF : Hid (∀ W, PaS W pb b c T (failM (missM T st) 8) → W.cell? ⟨pb, 2, none⟩ = some (.int .i64 st.opn) ∧ W.frozen? ⟨pb, 2, none⟩ = false ∧ PaS (W.setCell ⟨pb, 2, none⟩ (.int .i64 q1)) pb b c T { failM (missM T st) 8 with opn := (failM (missM T st) 8).opn + 1 }) := fun W h => ⟨by have := h.o; rw [failM_opn, missM_opn] at this; exact this, h.fo, h.ofO (by rw [failM_opn, missM_opn, hq])⟩
     go_enter Tryz.func42, Tryz.ntmps42
     go_upto_region 1 with fail
     rw [← hW1]
     clear hW1 hq
     go_wp2_with (first
      | (go_at_call 19; refine C1.out.mono ?_; rintro e w2 ⟨rfl, hp2, hg2⟩; have HP2 : Hid (PaS w2 pb b c T (missM T st)) := hp2; have HG2 : Hid (GrowA pb w w2) := HB1.out.trans hg2; have HL2 : Hid (Leave w2 pb w.heap.size) := HL1.out.grow hg2; have hq2 := HL2.out.1; have hl2 := HL2.out.2.1; clear hp2 hg2)
      | (go_at_call 45; refine (fail_is HP2.out 8).mono ?_; rintro e w3 ⟨rfl, hp3, hg3⟩; have HG3 : Hid (GrowA pb w w3) := HG2.out.trans hg3; have HL3 : Hid (Leave w3 pb w.heap.size) := HL2.out.grow hg3; have hq3 := HL3.out.1; have hl3 := HL3.out.2.1; obtain ⟨ho3, hf3, hx3⟩ := HF.out _ hp3; have HX3 : Hid (PaS (w3.setCell ⟨pb, 2, none⟩ (.int .i64 q1)) pb b c T { failM (missM T st) 8 with opn := (failM (missM T st) 8).opn + 1 }) := hx3; clear hp3 hg3 hx3))
     go_ret
     exact ⟨w.heap.size, rfl, HL3.out.grow ((GrowA.refl _ _).set 2 _), HX3.out, HG3.out.set 2 _, Nat.le_refl _⟩
   · rw [if_pos rfl]
     have HF : Hid (∀ W, PaS W pb b c T (failM st 8) → W.cell? ⟨pb, 2, none⟩ = some (.int .i64 st.opn) ∧ W.frozen? ⟨pb, 2, none⟩ = false ∧ PaS (W.setCell ⟨pb, 2, none⟩ (.int .i64 q1)) pb b c T { failM st 8 with opn := (failM st 8).opn + 1 }) := fun W h => ⟨by have := h.o; rw [failM_opn] at this; exact this, h.fo, h.ofO (by rw [failM_opn, hq])⟩
     go_enter Tryz.func42, Tryz.ntmps42
     go_upto_region 1 with fail
     rw [← hW1]
     clear hW1 hq
     go_wp2_with (first
      | (go_at_call 45; refine (fail_is HP1.out 8).mono ?_; rintro e w3 ⟨rfl, hp3, hg3⟩; have HG3 : Hid (GrowA pb w w3) := HB1.out.trans hg3; have HL3 : Hid (Leave w3 pb w.heap.size) := HL1.out.grow hg3; have hq3 := HL3.out.1; have hl3 := HL3.out.2.1; obtain ⟨ho3, hf3, hx3⟩ := HF.out _ hp3; have HX3 : Hid (PaS (w3.setCell ⟨pb, 2, none⟩ (.int .i64 q1)) pb b c T { failM st 8 with opn := (failM st 8).opn + 1 }) := hx3; clear hp3 hg3 hx3))
     go_ret
     exact ⟨w.heap.size, rfl, HL3.out.grow ((GrowA.refl _ _).set 2 _), HX3.out, HG3.out.set 2 _, Nat.le_refl _⟩
 · rw [if_neg h30]
   have h30i : ¬ (30 : Int) ≤ (st.opn : Int) := by omega
   have HX : Hid (PaS (W1.setCell ⟨pb, 2, none⟩ (.int .i64 q1)) pb b c T { st with opn := st.opn + 1 }) := HP1.out.ofO hq.symm
   go_enter Tryz.func42, Tryz.ntmps42
   go_upto_region 1 with fail
   rw [← hW1]
   clear hW1 hq
   go_wp2
   go_ret
   exact ⟨w.heap.size, rfl, HL1.out.grow ((GrowA.refl _ _).set 2 _), HX.out, HB1.out.set 2 _, Nat.le_refl _⟩
open Go.RowKit
def PhV (v : Value) : Prop := ∃ (k0 k1 k2 k5 k6 k7 : Int) (s3 s4 s8 : ByteArray) (a9 a10 : Option Addr) (l9 c9 l10 c10 : Nat), v = .agg #[.int .i64 k0, .int .i64 k1, .int .i64 k2, .string s3, .string s4, .int .i64 k5, .int .i64 k6, .int .i64 k7, .string s8, .slice a9 l9 c9, .slice a10 l10 c10]
theorem PhV.mk {k0 k1 k2 k5 k6 k7 : Int} {s3 s4 s8 : ByteArray} {a9 a10 : Option Addr} {l9 c9 l10 c10 : Nat} : PhV (.agg #[.int .i64 k0, .int .i64 k1, .int .i64 k2, .string s3, .string s4, .int .i64 k5, .int .i64 k6, .int .i64 k7, .string s8, .slice a9 l9 c9, .slice a10 l10 c10]) := ⟨k0, k1, k2, k5, k6, k7, s3, s4, s8, a9, a10, l9, c9, l10, c10, rfl⟩
def PhB (w : World) (r : Nat) (v : Array Value) : Prop := w.heap[r]? = some (.cells v 36)
abbrev PhZ (w : World) (r : Nat) : Prop := PhB w r #[.int .i64 0, .int .i64 0, .int .i64 0, .string ⟨#[]⟩, .string ⟨#[]⟩, .int .i64 0, .int .i64 0, .int .i64 0, .string ⟨#[]⟩, .slice none 0 0, .slice none 0 0]
theorem PhB.lt {w : World} {r : Nat} {v : Array Value} (h : PhB w r v) : r < w.heap.size := (Array.getElem?_eq_some_iff.1 h).1
theorem PhB.cells {w : World} {r : Nat} {k0 k1 k2 k5 k6 k7 : Int} {s3 s4 s8 : ByteArray} {a9 a10 : Option Addr} {l9 c9 l10 c10 : Nat} (h : PhB w r #[.int .i64 k0, .int .i64 k1, .int .i64 k2, .string s3, .string s4, .int .i64 k5, .int .i64 k6, .int .i64 k7, .string s8, .slice a9 l9 c9, .slice a10 l10 c10]) : (w.cell? ⟨r, 0, none⟩ = some (.int .i64 k0) ∧ w.cell? ⟨r, 1, none⟩ = some (.int .i64 k1) ∧ w.cell? ⟨r, 2, none⟩ = some (.int .i64 k2) ∧ w.cell? ⟨r, 3, none⟩ = some (.string s3) ∧ w.cell? ⟨r, 4, none⟩ = some (.string s4) ∧ w.cell? ⟨r, 5, none⟩ = some (.int .i64 k5) ∧ w.cell? ⟨r, 6, none⟩ = some (.int .i64 k6) ∧ w.cell? ⟨r, 7, none⟩ = some (.int .i64 k7) ∧ w.cell? ⟨r, 8, none⟩ = some (.string s8) ∧ w.cell? ⟨r, 9, none⟩ = some (.slice a9 l9 c9) ∧ w.cell? ⟨r, 10, none⟩ = some (.slice a10 l10 c10)) ∧ w.frozen? ⟨r, 0, none⟩ = false ∧ w.frozen? ⟨r, 1, none⟩ = false ∧ w.frozen? ⟨r, 2, none⟩ = false ∧ w.frozen? ⟨r, 3, none⟩ = false ∧ w.frozen? ⟨r, 4, none⟩ = false ∧ w.frozen? ⟨r, 5, none⟩ = false ∧ w.frozen? ⟨r, 6, none⟩ = false ∧ w.frozen? ⟨r, 7, none⟩ = false ∧ w.frozen? ⟨r, 8, none⟩ = false ∧ w.frozen? ⟨r, 9, none⟩ = false ∧ w.frozen? ⟨r, 10, none⟩ = false := by
 unfold PhB at h
 refine ⟨⟨?_, ?_, ?_, ?_, ?_, ?_, ?_, ?_, ?_, ?_, ?_⟩, ⟨?_, ?_, ?_, ?_, ?_, ?_, ?_, ?_, ?_, ?_, ?_⟩⟩ <;> simp [World.cell?, World.frozen?, h]
theorem PhB.new (w : World) (v : Array Value) : PhB (w.alloc (.cells v 36)) w.heap.size v := heap_alloc_new _ _
theorem PhB.grow {w w' : World} {pb r : Nat} {v : Array Value} (h : PhB w r v) (hg : GrowA pb w w') (hr : r ≠ pb) : PhB w' r v := (hg.2.2.2.2 r h.lt hr).trans h
theorem PhB.below {w w' : World} {r : Nat} {v : Array Value} (h : PhB w r v) (hb : Below w.heap.size w w') : PhB w' r v := (hb.block r h.lt).trans h
theorem PhB.allocI {w : World} {r : Nat} {v : Array Value} (h : PhB w r v) (o : Obj) : PhB (w.alloc o) r v := h.below ((Below.refl _ _).alloc (Nat.le_refl _) o)
theorem Leave.allocI {w : World} {pb q : Nat} (h : Leave w pb q) (o : Obj) : Leave (w.alloc o) pb q := h.grow ((GrowA.refl _ _).alloc o)
theorem Leave.below {w w' : World} {pb q : Nat} (h : Leave w pb q) (hb : Below w.heap.size w w') : Leave w' pb q := h.grow ((GrowA.refl _ _).below hb)
theorem GrowA.setR {pb : Nat} {w wr : World} (h : GrowA pb w wr) {r : Nat} (hr : w.heap.size ≤ r) (t : Nat) (u : Value) : GrowA pb w (wr.setCell ⟨r, t, none⟩ u) := ⟨by simpa using h.1, h.2.1, h.2.2.1, h.2.2.2.1, fun b h1 h2 => (Below.heap_setCell _ _ _ _ (by simp; omega)).trans (h.2.2.2.2 b h1 h2)⟩
theorem Leave.setR {w : World} {pb q r : Nat} (h : Leave w pb q) (hr : r ≠ q) (t : Nat) (u : Value) : Leave (w.setCell ⟨r, t, none⟩ u) pb q := ⟨(World.cell?_of_block (a := ⟨q, 0, none⟩) (Below.heap_setCell _ _ _ _ (by simpa using Ne.symm hr))).trans h.1, by simpa using h.2.1, h.2.2⟩
theorem PaS.setR {w : World} {pb b c : Nat} {T : List Tok} {st : Pst} (h : PaS w pb b c T st) {r : Nat} (hp : r ≠ pb) (hb : r ≠ b) (t : Nat) (u : Value) : PaS (w.setCell ⟨r, t, none⟩ u) pb b c T st := by
 have k : ∀ x, x ≠ r → (w.setCell ⟨r, t, none⟩ u).heap[x]? = w.heap[x]? := fun x hx => Below.heap_setCell _ _ _ _ (by simpa using hx)
 have kp := k pb (Ne.symm hp)
 have kb := k b (Ne.symm hb)
 exact ⟨(World.cell?_of_block (a := ⟨pb, 0, none⟩) kp).trans h.l, (World.cell?_of_block (a := ⟨pb, 1, none⟩) kp).trans h.a, (World.cell?_of_block (a := ⟨pb, 2, none⟩) kp).trans h.o, (World.cell?_of_block (a := ⟨pb, 3, none⟩) kp).trans h.e, (World.frozen?_of_block (a := ⟨pb, 1, none⟩) kp).trans h.fa, (World.frozen?_of_block (a := ⟨pb, 2, none⟩) kp).trans h.fo, (World.frozen?_of_block (a := ⟨pb, 3, none⟩) kp).trans h.fe, by simpa using h.pl, by simpa using h.bl, h.ne, fun i hi => by
  obtain ⟨h1, h2, h3⟩ := h.ts i hi
  exact ⟨(World.cell?_of_block (a := ⟨b, _, none⟩) kb).trans h1, (World.cell?_of_block (a := ⟨b, _, none⟩) kb).trans h2, (World.cell?_of_block (a := ⟨b, _, none⟩) kb).trans h3⟩⟩
theorem see_lit {w : World} {pb b c : Nat} {T : List Tok} {st : Pst} (h : PaS w pb b c T st) (a : Nat) (ha : a ≤ 2) (hT : T.length ≤ 200) (hat : st.at' ≤ 300) {k : Int} {s : ByteArray} {n : Int} (hs : seeM T st a = ⟨k, s, n⟩) :
 Calls Tryz.prog 65 #[.pointer (some ⟨pb, 0, none⟩), .int .i64 a] w fun e w' => e = .returned (.agg #[.int .i64 k, .string s, .int .i64 n]) ∧ Below w.heap.size w w' := by
 have := see_is h a ha hT (by omega)
 rw [hs] at this
 exact this
theorem skip_no {w : World} {pb b c : Nat} {T : List Tok} {st : Pst} (h : PaS w pb b c T st) (hT : T.length ≤ 200) (hat : st.at' ≤ 300) (k : Int) (s : ByteArray) (n : Int) (hs : eqT (seeM T st 0) ⟨k, s, n⟩ = false) :
 Calls Tryz.prog 69 #[.pointer (some ⟨pb, 0, none⟩), .agg #[.int .i64 k, .string s, .int .i64 n]] w fun e w' => e = .returned (.bool false) ∧ PaS w' pb b c T st ∧ GrowA pb w w' := by
 have := skip_is h ⟨k, s, n⟩ hT hat
 unfold skipM at this
 rw [if_neg (by rw [hs]; decide)] at this
 exact this
theorem skip_yes {w : World} {pb b c : Nat} {T : List Tok} {st : Pst} (h : PaS w pb b c T st) (hT : T.length ≤ 200) (hat : st.at' ≤ 300) (k : Int) (s : ByteArray) (n : Int) (hs : eqT (seeM T st 0) ⟨k, s, n⟩ = true) :
 Calls Tryz.prog 69 #[.pointer (some ⟨pb, 0, none⟩), .agg #[.int .i64 k, .string s, .int .i64 n]] w fun e w' => e = .returned (.bool true) ∧ PaS w' pb b c T { st with at' := st.at' + 1 } ∧ GrowA pb w w' := by
 have := skip_is h ⟨k, s, n⟩ hT hat
 unfold skipM at this
 rw [if_pos hs] at this
 exact this
set_option maxHeartbeats 800000 in
theorem pleave_is {w : World} {pb q b c : Nat} {T : List Tok} {st : Pst} (h : PaS w pb b c T st) (hl : Leave w pb q) (ho : 1 ≤ st.opn ∧ st.opn ≤ 200) (u : FrameMode) :
 CallsD Tryz.prog 64 #[.pointer (some ⟨q, 0, none⟩)] u w fun e u' w' => u' = u ∧ (e = .returned (.tuple #[]) ∧ PaS w' pb b c T { st with opn := st.opn - 1 } ∧ GrowA pb w w') := by
 have x2 := h.o
 have f2 := h.fo
 have hq := hl.1
 have hwr : IntKind.i64.wrap ((st.opn : Int) - 1) = ((st.opn - 1 : Nat) : Int) := by rw [IntWalk.i64_in _ (by omega)]; omega
 have HF : Hid (PaS (w.setCell ⟨pb, 2, none⟩ (.int .i64 ((st.opn - 1 : Nat) : Int))) pb b c T { st with opn := st.opn - 1 }) := h.setO _
 generalize ((st.opn - 1 : Nat) : Int) = q1 at hwr HF
 clear h hl
 go_enter_d Tryz.func64, Tryz.ntmps64
 go_wp2
 go_end0
 exact ⟨rfl, HF.out, (GrowA.refl _ _).set 2 _⟩
open Go.RowKit
inductive Ph where
 | no
 | mk (k : Int) (it : It) (nm : ByteArray) (n ax tk : Int) (tn : ByteArray) (na : Nat) (A : Nat → Ph) (nc : Nat) (CK : Nat → Int) (CN CA : Nat → ByteArray) (CD : Nat → Bool) (CE : Nat → Ph)
def phL (k : Int) (it : It) (nm : ByteArray) (n ax tk : Int) (tn : ByteArray) (av cv : Value) : List Value := [.int .i64 k, .int .i64 it.kind, .int .i64 it.n, .string it.s, .string nm, .int .i64 n, .int .i64 ax, .int .i64 tk, .string tn, av, cv]
def cAt (w : World) (g o : Nat) (vs : List Value) : Prop := ∀ (j : Nat) (h : j < vs.length), w.cell? ⟨g, o + j, none⟩ = some vs[j]
theorem cAt.keep {w w' : World} {g o : Nat} {vs : List Value} (h : cAt w g o vs) (hk : w'.heap[g]? = w.heap[g]?) : cAt w' g o vs := fun j hj => (World.cell?_of_block (a := ⟨g, _, none⟩) hk).trans (h j hj)
def Ph.V (w : World) (S : Nat → Prop) : Ph → List Value → Prop
 | .no, _ => False
 | .mk k it nm n ax tk tn na A nc CK CN CA CD CE, v => ∃ a9 c9 a10 c10, v = phL k it nm n ax tk tn (.slice a9 na c9) (.slice a10 nc c10) ∧ na ≤ c9 ∧ nc ≤ c10 ∧ c9 ≤ maxLen ∧ c10 ≤ maxLen
  ∧ (0 < na → ∃ g o, a9 = some ⟨g, o, none⟩ ∧ S g ∧ ∀ i, i < na → ∃ u, cAt w g (o + i * 11) u ∧ (A i).V w S u)
  ∧ (0 < nc → ∃ g o, a10 = some ⟨g, o, none⟩ ∧ S g ∧ ∀ i, i < nc → ∃ u, cAt w g (o + i * 15) ([.int .i64 (CK i), .string (CN i), .string (CA i), .bool (CD i)] ++ u) ∧ (CE i).V w S u)
theorem Ph.V.keep {w w' : World} {S S' : Nat → Prop} (hS : ∀ b, S b → S' b) (hk : ∀ b, S b → w'.heap[b]? = w.heap[b]?) : ∀ {p : Ph} {v : List Value}, p.V w S v → p.V w' S' v := by
 intro p
 induction p with
 | no => intro v h; exact h
 | mk k it nm n ax tk tn na A nc CK CN CA CD CE ihA ihC =>
  intro v h
  obtain ⟨a9, c9, a10, c10, h1, h2, h3, h4, h5, h6, h7⟩ := h
  refine ⟨a9, c9, a10, c10, h1, h2, h3, h4, h5, fun hn => ?_, fun hn => ?_⟩
  · obtain ⟨g, o, q1, q2, q3⟩ := h6 hn
    refine ⟨g, o, q1, hS _ q2, fun i hi => ?_⟩
    obtain ⟨u, r1, r2⟩ := q3 i hi
    exact ⟨u, r1.keep (hk g q2), ihA i r2⟩
  · obtain ⟨g, o, q1, q2, q3⟩ := h7 hn
    refine ⟨g, o, q1, hS _ q2, fun i hi => ?_⟩
    obtain ⟨u, r1, r2⟩ := q3 i hi
    exact ⟨u, r1.keep (hk g q2), ihC i r2⟩
def Tre (w : World) (lo : Nat) (p : Ph) (v : List Value) : Prop := p.V w (fun b => lo ≤ b ∧ b < w.heap.size) v
theorem Tre.grow {w w' : World} {pb lo : Nat} {p : Ph} {v : List Value} (h : Tre w lo p v) (hg : GrowA pb w w') (hp : pb < lo) : Tre w' lo p v :=
 Ph.V.keep (fun b hb => ⟨hb.1, Nat.lt_of_lt_of_le hb.2 hg.1⟩) (fun b hb => hg.2.2.2.2 b hb.2 (by omega)) h
theorem Tre.below {w w' : World} {lo : Nat} {p : Ph} {v : List Value} (h : Tre w lo p v) (hb : Below w.heap.size w w') : Tre w' lo p v :=
 Ph.V.keep (fun b h1 => ⟨h1.1, Nat.lt_of_lt_of_le h1.2 hb.size⟩) (fun b h1 => hb.block b h1.2) h
theorem Tre.allocI {w : World} {lo : Nat} {p : Ph} {v : List Value} (h : Tre w lo p v) (o : Obj) : Tre (w.alloc o) lo p v := h.below ((Below.refl _ _).alloc (Nat.le_refl _) o)
theorem Tre.setR {w : World} {lo r : Nat} {p : Ph} {v : List Value} (h : Tre w lo p v) (hr : r < lo) (t : Nat) (u : Value) : Tre (w.setCell ⟨r, t, none⟩ u) lo p v :=
 Ph.V.keep (fun b h1 => ⟨h1.1, by simpa using h1.2⟩) (fun b h1 => Below.heap_setCell _ _ _ _ (by simp; omega)) h
theorem Tre.mono {w : World} {lo lo' : Nat} {p : Ph} {v : List Value} (h : Tre w lo p v) (hl : lo' ≤ lo) : Tre w lo' p v := Ph.V.keep (fun b h1 => ⟨Nat.le_trans hl h1.1, h1.2⟩) (fun _ _ => rfl) h
theorem Ph.V.form {w : World} {S : Nat → Prop} {p : Ph} {v : List Value} (h : p.V w S v) : ∃ (k0 k1 k2 k5 k6 k7 : Int) (s3 s4 s8 : ByteArray) (a9 a10 : Option Addr) (l9 c9 l10 c10 : Nat), v = [.int .i64 k0, .int .i64 k1, .int .i64 k2, .string s3, .string s4, .int .i64 k5, .int .i64 k6, .int .i64 k7, .string s8, .slice a9 l9 c9, .slice a10 l10 c10] := by
 cases p with
 | no => exact h.elim
 | mk k it nm n ax tk tn na A nc CK CN CA CD CE =>
  obtain ⟨a9, c9, a10, c10, h1, _⟩ := h
  exact ⟨k, it.kind, it.n, n, ax, tk, it.s, nm, tn, a9, a10, na, c9, nc, c10, h1⟩
theorem Tre.form {w : World} {lo : Nat} {p : Ph} {v : List Value} (h : Tre w lo p v) : ∃ (k0 k1 k2 k5 k6 k7 : Int) (s3 s4 s8 : ByteArray) (a9 a10 : Option Addr) (l9 c9 l10 c10 : Nat), v = [.int .i64 k0, .int .i64 k1, .int .i64 k2, .string s3, .string s4, .int .i64 k5, .int .i64 k6, .int .i64 k7, .string s8, .slice a9 l9 c9, .slice a10 l10 c10] := Ph.V.form h
def ph0 (k : Int) (it : It) (nm : ByteArray) (n ax tk : Int) (tn : ByteArray) : Ph := .mk k it nm n ax tk tn 0 (fun _ => .no) 0 (fun _ => 0) (fun _ => ⟨#[]⟩) (fun _ => ⟨#[]⟩) (fun _ => false) (fun _ => .no)
theorem tre_ph0 {w : World} {lo : Nat} {k : Int} {it : It} {nm : ByteArray} {n ax tk : Int} {tn : ByteArray} : Tre w lo (ph0 k it nm n ax tk tn) (phL k it nm n ax tk tn (.slice none 0 0) (.slice none 0 0)) :=
 ⟨none, 0, none, 0, rfl, Nat.le_refl _, Nat.le_refl _, by decide, by decide, fun h => absurd h (by decide), fun h => absurd h (by decide)⟩
def phN (k : Int) (it : It) (nm : ByteArray) (n ax tk : Int) (tn : ByteArray) (na : Nat) (A : Nat → Ph) : Ph := .mk k it nm n ax tk tn na A 0 (fun _ => 0) (fun _ => ⟨#[]⟩) (fun _ => ⟨#[]⟩) (fun _ => false) (fun _ => .no)
def Phs (w : World) (lo : Nat) (na : Nat) (A : Nat → Ph) (v : Value) : Prop := ∃ a c, v = .slice a na c ∧ na ≤ c ∧ c ≤ maxLen ∧ (0 < na → ∃ g, a = some ⟨g, 0, none⟩ ∧ (lo ≤ g ∧ g < w.heap.size) ∧ ∀ i, i < na → ∃ u, cAt w g (i * 11) u ∧ Tre w lo (A i) u)
theorem Phs.form {w : World} {lo na : Nat} {A : Nat → Ph} {v : Value} (h : Phs w lo na A v) : ∃ a c, v = .slice a na c := by obtain ⟨a, c, h1, _⟩ := h; exact ⟨a, c, h1⟩
theorem Phs.grow {w w' : World} {pb lo na : Nat} {A : Nat → Ph} {v : Value} (h : Phs w lo na A v) (hg : GrowA pb w w') (hp : pb < lo) : Phs w' lo na A v := by
 obtain ⟨a, c, h1, h2, h2', h3⟩ := h
 refine ⟨a, c, h1, h2, h2', fun hn => ?_⟩
 obtain ⟨g, q1, q2, q3⟩ := h3 hn
 refine ⟨g, q1, ⟨q2.1, Nat.lt_of_lt_of_le q2.2 hg.1⟩, fun i hi => ?_⟩
 obtain ⟨u, r1, r2⟩ := q3 i hi
 exact ⟨u, r1.keep (hg.2.2.2.2 g q2.2 (by omega)), r2.grow hg hp⟩
theorem Phs.mono {w : World} {lo lo' na : Nat} {A : Nat → Ph} {v : Value} (h : Phs w lo na A v) (hl : lo' ≤ lo) : Phs w lo' na A v := by
 obtain ⟨a, c, h1, h2, h2', h3⟩ := h
 refine ⟨a, c, h1, h2, h2', fun hn => ?_⟩
 obtain ⟨g, q1, q2, q3⟩ := h3 hn
 refine ⟨g, q1, ⟨Nat.le_trans hl q2.1, q2.2⟩, fun i hi => ?_⟩
 obtain ⟨u, r1, r2⟩ := q3 i hi
 exact ⟨u, r1, r2.mono hl⟩
theorem Phs.setR {w : World} {lo na r : Nat} {A : Nat → Ph} {v : Value} (h : Phs w lo na A v) (hr : r < lo) (t : Nat) (x : Value) : Phs (w.setCell ⟨r, t, none⟩ x) lo na A v := by
 obtain ⟨a, c, h1, h2, h2', h3⟩ := h
 refine ⟨a, c, h1, h2, h2', fun hn => ?_⟩
 obtain ⟨g, q1, q2, q3⟩ := h3 hn
 refine ⟨g, q1, ⟨q2.1, by simpa using q2.2⟩, fun i hi => ?_⟩
 obtain ⟨u, r1, r2⟩ := q3 i hi
 exact ⟨u, r1.keep (Below.heap_setCell _ _ _ _ (by simp; omega)), r2.setR hr t x⟩
theorem Phs.allocI {w : World} {lo na : Nat} {A : Nat → Ph} {v : Value} (h : Phs w lo na A v) (o : Obj) : Phs (w.alloc o) lo na A v := by
 obtain ⟨a, c, h1, h2, h2', h3⟩ := h
 refine ⟨a, c, h1, h2, h2', fun hn => ?_⟩
 obtain ⟨g, q1, q2, q3⟩ := h3 hn
 refine ⟨g, q1, ⟨q2.1, by simp; omega⟩, fun i hi => ?_⟩
 obtain ⟨u, r1, r2⟩ := q3 i hi
 exact ⟨u, r1.keep (Below.heap_alloc _ _ _ q2.2), r2.allocI o⟩
theorem Phs.tre {w : World} {lo na : Nat} {A : Nat → Ph} {v : Value} (h : Phs w lo na A v) {k : Int} {it : It} {nm : ByteArray} {n ax tk : Int} {tn : ByteArray} : Tre w lo (phN k it nm n ax tk tn na A) (phL k it nm n ax tk tn v (.slice none 0 0)) := by
 obtain ⟨a, c, h1, h2, h2', h3⟩ := h
 subst h1
 refine ⟨a, c, none, 0, rfl, h2, Nat.le_refl _, h2', by decide, fun hn => ?_, fun h => absurd h (by decide)⟩
 obtain ⟨g, q1, q2, q3⟩ := h3 hn
 refine ⟨g, 0, q1, q2, fun i hi => ?_⟩
 obtain ⟨u, r1, r2⟩ := q3 i hi
 rw [Nat.zero_add]
 exact ⟨u, r1, r2⟩
theorem phs_one {w : World} {lo g : Nat} {p : Ph} {u : List Value} {T : TypeId} (h : w.heap[g]? = some (.cells u.toArray T)) (hg : lo ≤ g) (hp : Tre w lo p u) (hu : u.length = 11) : Phs w lo 1 (fun _ => p) (.slice (some ⟨g, 0, none⟩) 1 1) := by
 refine ⟨_, _, rfl, Nat.le_refl _, by decide, fun _ => ⟨g, rfl, ⟨hg, (Array.getElem?_eq_some_iff.1 h).1⟩, fun i hi => ⟨u, fun j hj => ?_, hp⟩⟩⟩
 have hi0 : i = 0 := by omega
 subst hi0
 simp only [Nat.zero_mul, Nat.zero_add]
 simp [World.cell?, h, hj]
open Go.RowKit
open Go.RowKit
set_option maxHeartbeats 400000 in
theorem isLetter_any (c : Int) (w : World) :
 Calls Tryz.prog 28 #[.int .u8 c] w fun e w' => e = .returned (.bool (lett c)) ∧ w' = w := by
 go_enter Tryz.func28, Tryz.ntmps28
 go_wp2
 all_goals
  go_ret
  refine ⟨ret_bool ?_, rfl⟩
  rw [Bool.eq_iff_iff]
  simp_all [lett]
  try omega
set_option maxHeartbeats 400000 in
theorem isDigit_any (c : Int) (w : World) :
 Calls Tryz.prog 30 #[.int .u8 c] w fun e w' => e = .returned (.bool (dgt c)) ∧ w' = w := by
 go_enter Tryz.func30, Tryz.ntmps30
 go_wp2
 all_goals
  go_ret
  refine ⟨ret_bool ?_, rfl⟩
  rw [Bool.eq_iff_iff]
  simp_all [dgt]
  try omega
set_option maxHeartbeats 400000 in
theorem isWordByte_any (c : Int) (f : Bool) (w : World) :
 Calls Tryz.prog 75 #[.int .u8 c, .bool f] w fun e w' => e = .returned (.bool (wb c f)) ∧ w' = w := by
 have hw : wb c f = (lett c || (!f && (dgt c || decide (c = 45)))) := rfl
 have HW : Hid (wb c f = (lett c || (!f && (dgt c || decide (c = 45))))) := hw
 clear hw
 cases f <;> cases hl : lett c <;> cases hd : dgt c
 all_goals
  go_enter Tryz.func75, Tryz.ntmps75
  go_wp2_with (first
   | (go_at_call 28; refine (isLetter_any _ _).mono ?_; rintro e w' ⟨rfl, rfl⟩)
   | (go_at_call 30; refine (isDigit_any _ _).mono ?_; rintro e w' ⟨rfl, rfl⟩))
  all_goals
   go_ret
   refine ⟨ret_bool ?_, rfl⟩
   rw [HW.out]
   simp_all
   try rfl
set_option maxHeartbeats 800000 in
theorem wordBytes_any (s : ByteArray) (w : World) (hs : s.size ≤ maxLen) :
 Calls Tryz.prog 55 #[.string s] w fun e w' => e = .returned (.int .i64 (wl s.data.toList true)) ∧ w' = w := by
 unfold maxLen at hs
 have hle : wl s.data.toList true ≤ s.size := wl_le _ _
 go_enter Tryz.func55, Tryz.ntmps55
 go_wp2
 go_loop [3] (fun i => ∃ k : Nat, k ≤ wl s.data.toList true ∧ i = .int .i64 k) (fun i => s.size - (intOf i).toNat)
 case atStart => exact ⟨0, Nat.zero_le _, rfl⟩
 case round =>
  obtain ⟨k, hk, rfl⟩ := hrel
  by_cases hlt : k < wl s.data.toList true
  · have hks : k < s.size := by omega
    have hb0 : wb (byteAt s k) (decide (k = 0)) = true := by have := wl_lt s.data.toList true k hlt; simpa [byteAt_bAt] using this
    have hb : wb (s[k].toNat : Int) ((k : Int) == 0) = true := by
     rw [byteAt_eq s k hks]
     have e : ((k : Int) == 0) = decide (k = 0) := by rw [Bool.eq_iff_iff]; simp
     rw [e]; exact hb0
    clear hb0
    go_wp2_with (go_at_call 75; refine (isWordByte_any _ _ _).mono ?_; rintro e w' ⟨rfl, rfl⟩)
    go_round
    case rel => exact ⟨k + 1, by omega, by go_num⟩
    case measure => simp [intOf]; omega
  · have e : k = wl s.data.toList true := by omega
    have E : Hid (k = wl s.data.toList true) := e
    by_cases hks : k < s.size
    · have hb0 : wb (byteAt s k) (decide (k = 0)) = false := by
       have := wl_eq s.data.toList true (by rw [← e]; exact hks)
       rw [← e] at this; simpa [byteAt_bAt] using this
      have hb : wb (s[k].toNat : Int) ((k : Int) == 0) = false := by
       rw [byteAt_eq s k hks]
       have e : ((k : Int) == 0) = decide (k = 0) := by rw [Bool.eq_iff_iff]; simp
       rw [e]; exact hb0
      clear hb0 hlt hk e hle
      go_wp2_with (go_at_call 75; refine (isWordByte_any _ _ _).mono ?_; rintro e w' ⟨rfl, rfl⟩)
      go_ret
      exact ⟨ret_int (by rw [E.out]), rfl⟩
    · clear hlt hk e hle
      go_wp2
      go_ret
      exact ⟨ret_int (by rw [E.out]), rfl⟩
set_option maxHeartbeats 400000 in
theorem isName_any2 (s : ByteArray) (w : World) (hs : s.size ≤ maxLen) :
 Calls Tryz.prog 56 #[.string s] w fun e w' => e = .returned (.bool (nmB s)) ∧ w' = w := by
 have C : Hid (∀ W, Calls Tryz.prog 55 #[.string s] W fun e w' => e = .returned (.int .i64 (wl s.data.toList true)) ∧ w' = W) := fun W => wordBytes_any s W hs
 unfold maxLen at hs
 have HN : Hid (nmB s = (decide (1 ≤ s.size ∧ s.size ≤ 20) && decide (wl s.data.toList true = s.size))) := rfl
 generalize wl s.data.toList true = L at *
 by_cases h1 : 1 ≤ s.size
 all_goals by_cases h2 : s.size ≤ 20
 all_goals by_cases h3 : L = s.size
 all_goals
  go_enter Tryz.func56, Tryz.ntmps56
  go_wp2_with (go_at_call 55; refine (C.out _).mono ?_; rintro e w' ⟨rfl, rfl⟩)
  all_goals
   go_ret
   refine ⟨ret_bool ?_, rfl⟩
   rw [HN.out]
   rw [Bool.eq_iff_iff]
   simp
   try omega
open Go.RowKit
def mkS (k : Nat) : ByteArray := ⟨(mkAt k).toArray⟩
def mkCells : Array Value := #[.string ⟨#[58, 58]⟩, .string ⟨#[47, 47]⟩, .string ⟨#[46, 46]⟩, .string ⟨#[58, 61]⟩, .string ⟨#[33, 61]⟩, .string ⟨#[60, 61]⟩, .string ⟨#[62, 61]⟩, .string ⟨#[60, 60]⟩, .string ⟨#[62, 62]⟩, .string ⟨#[47]⟩, .string ⟨#[40]⟩, .string ⟨#[41]⟩, .string ⟨#[91]⟩, .string ⟨#[93]⟩, .string ⟨#[123]⟩, .string ⟨#[125]⟩, .string ⟨#[44]⟩, .string ⟨#[46]⟩, .string ⟨#[64]⟩, .string ⟨#[42]⟩, .string ⟨#[61]⟩, .string ⟨#[60]⟩, .string ⟨#[62]⟩, .string ⟨#[43]⟩, .string ⟨#[45]⟩, .string ⟨#[124]⟩]
def MarkTab (w : World) : Prop := ∃ t fr, w.heap[0]? = some (.cells mkCells t fr)
theorem MarkTab.below {w w' : World} {B : Nat} (h : MarkTab w) (hb : Below B w w') (hB : 0 < B) : MarkTab w' := by
 obtain ⟨t, fr, h⟩ := h
 exact ⟨t, fr, (hb.block 0 hB).trans h⟩
theorem MarkTab.heap {w w' : World} (h : MarkTab w) (e : w'.heap = w.heap) : MarkTab w' := by
 obtain ⟨t, fr, h⟩ := h
 exact ⟨t, fr, by rw [e]; exact h⟩
theorem mk_index : ∀ (k : Nat), k < 26 → ∀ w, (Instr.index 106 (.agg mkCells) (.int .i64 (k : Int))).run Tryz.prog w = .ok (.string (mkS k)) w := by
 intro k hk
 have : k = 0 ∨ k = 1 ∨ k = 2 ∨ k = 3 ∨ k = 4 ∨ k = 5 ∨ k = 6 ∨ k = 7 ∨ k = 8 ∨ k = 9 ∨ k = 10 ∨ k = 11 ∨ k = 12 ∨ k = 13 ∨ k = 14 ∨ k = 15 ∨ k = 16 ∨ k = 17 ∨ k = 18 ∨ k = 19 ∨ k = 20 ∨ k = 21 ∨ k = 22 ∨ k = 23 ∨ k = 24 ∨ k = 25 := by omega
 rcases this with rfl | rfl | rfl | rfl | rfl | rfl | rfl | rfl | rfl | rfl | rfl | rfl | rfl | rfl | rfl | rfl | rfl | rfl | rfl | rfl | rfl | rfl | rfl | rfl | rfl | rfl <;> exact fun _ => by kernel_rfl
theorem mkS_list (k : Nat) : (mkS k).data.toList = mkAt k := by simp [mkS]
set_option maxHeartbeats 1600000 in
theorem firstMark_any (s : ByteArray) (w : World) (hM : MarkTab w) :
 Calls Tryz.prog 33 #[.string s] w fun e w' => e = .returned (.string ⟨(fm s.data.toList).toArray⟩) ∧ w' = w := by
 obtain ⟨tt, fr, hg⟩ := hM
 have HG : Hid (w.heap[0]? = some (.cells mkCells tt fr)) := hg
 clear hg
 go_enter Tryz.func33, Tryz.ntmps33
 go_wp2_with (refine wpList_load_row rfl 106 _ rfl 0 rfl tt _ fr _ HG.out Tryz.underlying106 rfl (by kernel_rfl) ?_)
 go_loop [6] (fun i => ∃ k : Nat, k ≤ 26 ∧ i = .int .i64 k ∧ fm s.data.toList = fmFrom s.data.toList k) (fun i => 26 - (intOf i).toNat)
 case atStart => exact ⟨0, by omega, rfl, rfl⟩
 case round =>
  obtain ⟨k, hk, rfl, hno⟩ := hrel
  have HN : Hid (fm s.data.toList = fmFrom s.data.toList k) := hno
  clear hno
  by_cases hlt : k < 26
  · have hI := mk_index k hlt
    have HP : Hid (Calls Tryz.prog 21 #[.string s, .string (mkS k)] w fun e w' => e = .returned (.bool ((mkAt k).isPrefixOf s.data.toList)) ∧ w' = w) := by
     have := Tryz.strings_HasPrefix s (mkS k) w
     rw [mkS_list] at this
     exact this
    cases hp : (mkAt k).isPrefixOf s.data.toList
    · have HR : Hid (fm s.data.toList = fmFrom s.data.toList (k + 1)) := HN.out.trans (fmFrom_miss hlt hp)
      rw [hp] at HP
      clear hp
      go_wp2_with (go_at_call 21; refine HP.out.mono ?_; rintro e w' ⟨rfl, rfl⟩)
      go_round
      case rel => exact ⟨k + 1, by omega, by go_num, HR.out⟩
      case measure => simp [intOf]; omega
    · have HR : Hid (fm s.data.toList = mkAt k) := HN.out.trans (fmFrom_hit hlt hp)
      rw [hp] at HP
      clear hp
      go_wp2_with (go_at_call 21; refine HP.out.mono ?_; rintro e w' ⟨rfl, rfl⟩)
      go_ret
      exact ⟨by rw [HR.out]; rfl, rfl⟩
  · have e : k = 26 := by omega
    have HR : Hid (fm s.data.toList = []) := by rw [e] at HN; exact HN.out.trans (fmFrom_end _)
    have hki : ¬ ((k : Int) < 26) := by omega
    clear e hlt hk
    go_wp2
    go_ret
    exact ⟨by rw [HR.out]; rfl, rfl⟩
theorem bytes_eq_iff (a b : ByteArray) : (a.toList == b.toList) = true ↔ a = b := by
 rw [beq_iff_eq, ByteArray.toList_eq, ByteArray.toList_eq]
 constructor
 · intro h
   cases a; cases b
   simp only at h
   rw [Array.toList_inj.1 h]
 · rintro rfl; rfl
open Go.RowKit
theorem isEmptyT_yes {s : ByteArray} (h : s.size = 0) : s.toList.isEmpty = true := by
 rw [ByteArray.toList_eq, List.isEmpty_iff, List.eq_nil_iff_length_eq_zero]; exact h
theorem isEmptyT_no {s : ByteArray} (h : ¬ s.size = 0) : s.toList.isEmpty = false := by
 rw [ByteArray.toList_eq, List.isEmpty_eq_false_iff, ne_eq, List.eq_nil_iff_length_eq_zero]; exact h
theorem below_drawnT {B : Nat} {w w' : World} (h : Below B w w') : ∀ n, Below B w (w'.drewN n)
 | 0 => h
 | n + 1 => (below_drawnT h n).drew
def txF (k : Int) (s : ByteArray) : Int :=
 if k = 3 then (if hasQ s.data.toList = true then 4 else textF s)
 else if k = 5 then (if isMk s.data.toList = true then 0 else 6)
 else if nmB s = true then 0 else 10
def numF (s : ByteArray) (n : Int) : Int := if n < 0 ∨ 1099511627776 < n then 2 else if s.size ≠ 0 then 4 else 0
theorem tokF_is (k : Int) (s : ByteArray) (n : Int) : tokF k s n = if ¬ (1 ≤ k ∧ k ≤ 5) then 3 else if k = 2 then numF s n else if n ≠ 0 then 4 else txF k s := by
 unfold tokF numF txF
 rfl
set_option maxHeartbeats 400000 in
theorem checkNumber_any (k n : Int) (s : ByteArray) (w : World) :
 Calls Tryz.prog 40 #[.agg #[.int .i64 k, .string s, .int .i64 n]] w fun e w' => e = .returned (.int .i64 (numF s n)) ∧ Below w.heap.size w w' := by
 have HF : Hid (numF s n = if n < 0 ∨ 1099511627776 < n then 2 else if s.size ≠ 0 then 4 else 0) := rfl
 generalize numF s n = F at HF
 by_cases hn : n < 0
 · have HR : Hid (F = 2) := HF.out.trans (if_pos (.inl hn))
   clear HF
   go_enter Tryz.func40, Tryz.ntmps40
   go_wp2
   go_ret
   exact ⟨ret_int HR.out.symm, (Below.refl _ _).alloc (Nat.le_refl _) _⟩
 by_cases hm : 1099511627776 < n
 · have HR : Hid (F = 2) := HF.out.trans (if_pos (.inr hm))
   clear HF
   go_enter Tryz.func40, Tryz.ntmps40
   go_wp2
   go_ret
   exact ⟨ret_int HR.out.symm, (Below.refl _ _).alloc (Nat.le_refl _) _⟩
 have HG : Hid (F = if s.size ≠ 0 then 4 else 0) := HF.out.trans (if_neg (by omega))
 clear HF
 by_cases hz : s.size = 0
 · have he := isEmptyT_yes hz
   have HR : Hid (F = 0) := HG.out.trans (if_neg (by omega))
   clear HG hz
   go_enter Tryz.func40, Tryz.ntmps40
   go_wp2
   go_ret
   exact ⟨ret_int HR.out.symm, (Below.refl _ _).alloc (Nat.le_refl _) _⟩
 · have he := isEmptyT_no hz
   have HR : Hid (F = 4) := HG.out.trans (if_pos hz)
   clear HG hz
   go_enter Tryz.func40, Tryz.ntmps40
   go_wp2
   go_ret
   exact ⟨ret_int HR.out.symm, (Below.refl _ _).alloc (Nat.le_refl _) _⟩
theorem hasQ_is (s : ByteArray) : decide (0 ≤ Lib.indexByte s.data.toList 34) = hasQ s.data.toList := (Lib.contains_iff_indexByte s.data.toList 34).symm
theorem fm_eq_yes {s : ByteArray} (h : isMk s.data.toList = true) : ((⟨(fm s.data.toList).toArray⟩ : ByteArray).toList == s.toList) = true := by
 rw [fm_isMk, Bool.and_eq_true] at h
 have h2 := of_decide_eq_true h.2
 rw [h2]
 simp [ByteArray.toList_eq]
theorem fm_eq_no {s : ByteArray} (h : isMk s.data.toList = false) (hz : ¬ s.size = 0) : ((⟨(fm s.data.toList).toArray⟩ : ByteArray).toList == s.toList) = false := by
 cases e : ((⟨(fm s.data.toList).toArray⟩ : ByteArray).toList == s.toList) with
 | false => rfl
 | true =>
  have e' := (bytes_eq_iff _ _).1 e
  rw [fm_isMk] at h
  have h1 : fm s.data.toList = s.data.toList := by
   have := congrArg (fun x : ByteArray => x.data.toList) e'
   simpa using this
  have h2 : s.data.toList ≠ [] := by
   intro e0
   exact hz (by simpa using congrArg List.length e0)
  rw [decide_eq_true h1, decide_eq_true h2] at h
  exact absurd h (by decide)
set_option maxHeartbeats 1600000 in
theorem checkTextOf_any (k n : Int) (s : ByteArray) (w : World) (hs : s.size ≤ maxLen) (hT : Tabs w) (hM : MarkTab w) (hg : 0 < w.heap.size) :
 Calls Tryz.prog 41 #[.agg #[.int .i64 k, .string s, .int .i64 n]] w fun e w' => e = .returned (.int .i64 (txF k s)) ∧ Below w.heap.size w w' := by
 have CT : Hid (∀ o, Calls Tryz.prog 59 #[.string s] (w.alloc o) fun e w' => e = .returned (.int .i64 (textF s)) ∧ Below (w.alloc o).heap.size (w.alloc o) w') :=
  fun o => checkText_any s _ hs (Utf8Tabs_below hT ((Below.refl _ _).alloc (Nat.le_refl _) _))
 have CQ : Hid (∀ W, Calls Tryz.prog 63 #[.string s, .string ⟨#[34]⟩] W fun e w' => e = .returned (.bool (hasQ s.data.toList)) ∧ w' = W) := fun W => by
  have := Tryz.strings_Contains_one s 34 W
  rw [hasQ_is] at this
  exact this
 have CF : Hid (∀ o z, Calls Tryz.prog 33 #[.string s] ((w.alloc o).drewN z) fun e w' => e = .returned (.string ⟨(fm s.data.toList).toArray⟩) ∧ w' = (w.alloc o).drewN z) :=
  fun o z => firstMark_any s _ (hM.below (below_drawnT ((Below.refl _ _).alloc (Nat.le_refl _) _) z) hg)
 have CN : Hid (∀ W, Calls Tryz.prog 56 #[.string s] W fun e w' => e = .returned (.bool (nmB s)) ∧ w' = W) := fun W => isName_any2 s W hs
 have HF : Hid (txF k s = if k = 3 then (if hasQ s.data.toList = true then 4 else textF s) else if k = 5 then (if isMk s.data.toList = true then 0 else 6) else if nmB s = true then 0 else 10) := rfl
 generalize txF k s = F at HF
 clear hT hM hs hg
 by_cases k3 : k = 3
 · subst k3
   have HG : Hid (F = if hasQ s.data.toList = true then 4 else textF s) := HF.out
   clear HF CF CN
   generalize hasQ s.data.toList = B at *
   cases B
   all_goals
    go_enter Tryz.func41, Tryz.ntmps41
    go_wp2_with (first | (go_at_call 63; refine (CQ.out _).mono ?_; rintro e w2 ⟨rfl, rfl⟩) | (go_at_call 59; refine (CT.out _).mono ?_; rintro e w2 ⟨rfl, hb⟩))
    go_ret
    first
    | exact ⟨ret_int HG.out.symm, (Below.refl _ _).alloc (Nat.le_refl _) _⟩
    | exact ⟨ret_int HG.out.symm, ((Below.refl _ _).alloc (Nat.le_refl _) _).trans (hb.mono (by simp))⟩
 clear CT CQ
 by_cases k5 : k = 5
 · subst k5
   have HG : Hid (F = if isMk s.data.toList = true then 0 else 6) := HF.out
   clear HF CN
   by_cases hz : s.size = 0
   · have he := isEmptyT_yes hz
     have HR : Hid (F = 6) := HG.out.trans (if_neg (by
      rw [show s.data.toList = [] from List.eq_nil_of_length_eq_zero (by simpa using hz)]; decide))
     clear HG hz CF
     go_enter Tryz.func41, Tryz.ntmps41
     go_wp2
     go_quiet (fail)
     go_wp2
     go_ret
     exact ⟨ret_int HR.out.symm, below_drawnT ((Below.refl _ _).alloc (Nat.le_refl _) _) _⟩
   · have he := isEmptyT_no hz
     cases hk : isMk s.data.toList
     · have hq := fm_eq_no hk hz
       rw [hk] at HG
       clear hk hz
       generalize (⟨(fm s.data.toList).toArray⟩ : ByteArray) = M at *
       go_enter Tryz.func41, Tryz.ntmps41
       go_wp2
       go_quiet ((go_at_call 33; exact Calls.quiet_of_same (CF.out _ _)))
       go_wp2
       go_ret
       exact ⟨ret_int HG.out.symm, below_drawnT ((Below.refl _ _).alloc (Nat.le_refl _) _) _⟩
     · have hq := fm_eq_yes hk
       rw [hk] at HG
       clear hk hz
       generalize (⟨(fm s.data.toList).toArray⟩ : ByteArray) = M at *
       go_enter Tryz.func41, Tryz.ntmps41
       go_wp2
       go_quiet ((go_at_call 33; exact Calls.quiet_of_same (CF.out _ _)))
       go_wp2
       go_ret
       exact ⟨ret_int HG.out.symm, below_drawnT ((Below.refl _ _).alloc (Nat.le_refl _) _) _⟩
 · have HG : Hid (F = if nmB s = true then 0 else 10) := HF.out.trans ((if_neg k3).trans (if_neg k5))
   have k3' : (k == 3) = false := by simpa using k3
   have k5' : (k == 5) = false := by simpa using k5
   clear HF CF k3 k5
   generalize nmB s = B at *
   cases B
   all_goals
    go_enter Tryz.func41, Tryz.ntmps41
    go_wp2_with (first | (go_at_call 56; refine (CN.out _).mono ?_; rintro e w2 ⟨rfl, rfl⟩))
    go_ret
    exact ⟨ret_int HG.out.symm, (Below.refl _ _).alloc (Nat.le_refl _) _⟩
set_option maxHeartbeats 800000 in
theorem checkToken_any (k n : Int) (s : ByteArray) (w : World) (hs : s.size ≤ maxLen) (hT : Tabs w) (hM : MarkTab w) (hg : 0 < w.heap.size) :
 Calls Tryz.prog 17 #[.agg #[.int .i64 k, .string s, .int .i64 n]] w fun e w' => e = .returned (.int .i64 (tokF k s n)) ∧ Below w.heap.size w w' := by
 have CT : Hid (∀ o, Calls Tryz.prog 41 #[.agg #[.int .i64 k, .string s, .int .i64 n]] (w.alloc o) fun e w' => e = .returned (.int .i64 (txF k s)) ∧ Below (w.alloc o).heap.size (w.alloc o) w') :=
  fun o => checkTextOf_any k n s _ hs (Utf8Tabs_below hT ((Below.refl _ _).alloc (Nat.le_refl _) _)) (hM.below ((Below.refl _ _).alloc (Nat.le_refl _) _) hg) (by simp <;> omega)
 have CN : Hid (∀ o, Calls Tryz.prog 40 #[.agg #[.int .i64 k, .string s, .int .i64 n]] (w.alloc o) fun e w' => e = .returned (.int .i64 (numF s n)) ∧ Below (w.alloc o).heap.size (w.alloc o) w') :=
  fun o => checkNumber_any k n s _
 have HF : Hid (tokF k s n = if ¬ (1 ≤ k ∧ k ≤ 5) then 3 else if k = 2 then numF s n else if n ≠ 0 then 4 else txF k s) := tokF_is k s n
 generalize tokF k s n = F at HF
 generalize numF s n = A at *
 generalize txF k s = X at *
 clear hT hM hs hg
 by_cases k2 : k = 2
 · subst k2
   have HG : Hid (F = A) := HF.out
   clear HF CT
   go_enter Tryz.func17, Tryz.ntmps17
   go_wp2_with (first | (go_at_call 40; refine (CN.out _).mono ?_; rintro e w2 ⟨rfl, hb⟩))
   go_ret
   exact ⟨ret_int HG.out.symm, ((Below.refl _ _).alloc (Nat.le_refl _) _).trans (hb.mono (by simp))⟩
 clear CN
 by_cases hk : 1 ≤ k ∧ k ≤ 5
 · have hk' : k = 1 ∨ k = 3 ∨ k = 4 ∨ k = 5 := by omega
   have HG : Hid (F = if n ≠ 0 then 4 else X) := HF.out.trans ((if_neg (by omega)).trans (if_neg k2))
   clear HF
   by_cases hn : n = 0
   · subst hn
     have HR : Hid (F = X) := HG.out
     clear HG k2 hk
     rcases hk' with rfl | rfl | rfl | rfl
     all_goals
      go_enter Tryz.func17, Tryz.ntmps17
      go_wp2_with (first | (go_at_call 41; refine (CT.out _).mono ?_; rintro e w2 ⟨rfl, hb⟩))
      go_ret
      exact ⟨ret_int HR.out.symm, ((Below.refl _ _).alloc (Nat.le_refl _) _).trans (hb.mono (by simp))⟩
   · have hn' : (n == 0) = false := by simpa using hn
     have HR : Hid (F = 4) := HG.out.trans (if_pos hn)
     clear HG k2 hk hn CT
     rcases hk' with rfl | rfl | rfl | rfl
     all_goals
      go_enter Tryz.func17, Tryz.ntmps17
      go_wp2
      go_ret
      exact ⟨ret_int HR.out.symm, (Below.refl _ _).alloc (Nat.le_refl _) _⟩
 · have HR : Hid (F = 3) := HF.out.trans (if_pos hk)
   have e1 : (k == 1) = false := by simp; omega
   have e2 : (k == 2) = false := by simp; omega
   have e3 : (k == 3) = false := by simp; omega
   have e4 : (k == 4) = false := by simp; omega
   have e5 : (k == 5) = false := by simp; omega
   clear HF CT k2 hk
   go_enter Tryz.func17, Tryz.ntmps17
   go_wp2
   go_ret
   exact ⟨ret_int HR.out.symm, (Below.refl _ _).alloc (Nat.le_refl _) _⟩
open Go
theorem wp_val {P : Program} {o : Oper} {a : Act} {w w' : World} {K : Act → World → Prop} {Q : Exit → Act → World → Prop} {v : Value} (h : (execOp a.eval o).run P w = .ok (.value v) w') (hK : K (a.put o.dst v) w') : o.wp P a w K Q := by
 unfold Oper.wp
 rw [h]
 exact hK
theorem wp_skip {P : Program} {o : Oper} {a : Act} {w w' : World} {K : Act → World → Prop} {Q : Exit → Act → World → Prop} (h : (execOp a.eval o).run P w = .ok .skip w') (hK : K (a.put o.dst undef) w') : o.wp P a w K Q := by
 unfold Oper.wp
 rw [h]
 exact hK
theorem wp_enter {P : Program} {o : Oper} {a : Act} {w w' : World} {K : Act → World → Prop} {Q : Exit → Act → World → Prop} {f : FuncId} {args : Array Value} (h : (execOp a.eval o).run P w = .ok (.enter f args) w') (hc : Calls P f args w' fun e w'' => ∃ v, e = .returned v ∧ K (a.put o.dst v) w'') : o.wp P a w K Q := by
 unfold Oper.wp
 rw [h]
 show Calls P f args w' _
 refine hc.mono ?_
 rintro e w'' ⟨v, rfl, hv⟩
 exact hv
def noDst (ops : Array Oper) (s : Nat) : Bool := (List.range ops.size).all fun i => decide ((ops[i]?).bind (·.dst) ≠ some s)
theorem SlotInv.given {ops : Array Oper} {a0 : Act} {D : Nat → Value → World → Prop} {G : Array Bool → Act → World → Prop} {listed : Array Bool} {a : Act} {w : World} (h : SlotInv ops a0 D G listed a w) (s : Nat) (v : Value) (hv : a0.tmps[s]? = some v) (hn : noDst ops s = true) : a.tmps[s]? = some v :=
 (h.old s fun j o ho hs => by
  unfold noDst at hn
  have := List.all_eq_true.1 hn j (List.mem_range.2 (Array.getElem?_eq_some_iff.1 ho).1)
  rw [ho] at this
  simp only [Option.bind_some, hs, ne_eq, not_true_eq_false, decide_false] at this
  cases this).trans hv
theorem set_other_get {listed : Array Bool} {i j : Nat} (h : i ≠ j) : (listed.setIfInBounds i true).getD j false = listed.getD j false := by rw [set_get, if_neg h]
theorem set_this_get {listed : Array Bool} {i n : Nat} (hs : listed.size = n) (hi : i < n) : (listed.setIfInBounds i true).getD i false = true := by rw [set_get, if_pos rfl, if_pos (by omega)]
theorem SlotInv.later2 {ops : Array Oper} {a0 : Act} {D : Nat → Value → World → Prop} {G : Array Bool → Act → World → Prop} {listed : Array Bool} {a : Act} {w : World} (h : SlotInv ops a0 D G listed a w) (j i : Nat) (o : Oper) (e : Edge) (ho : ops[j]? = some o) (he : e ∈ o.after) (hb : Region.binds .any e = true) (hon : e.on = i) (hl : listed.getD i false = false) : listed.getD j false = false := by
 cases hx : listed.getD j false with
 | false => rfl
 | true =>
  have := h.shut j o ho hx e he hb
  rw [hon, hl] at this
  cases this
theorem put_other {a : Act} {s t : Nat} {v : Value} (h : s ≠ t) : (a.put (some s) v).tmps[t]? = a.tmps[t]? := by rw [put_at, if_neg h]
theorem put_this {a : Act} {s : Nat} {v : Value} (h : s < a.tmps.size) : (a.put (some s) v).tmps[s]? = some v := by rw [put_at, if_pos rfl, if_pos h]
theorem want_none {o : Oper} {y : Nat → Option Bool} (h : o.guard = none) : Region.wanted o y = true := by
 unfold Region.wanted
 rw [h]
open Go.RowKit Go.ChangeShapes Go.WideShapes Go.Deep
theorem cells3 : Tryz.prog.cellsOf 3 = 1 := by kernel_rfl
theorem cells9 : Tryz.prog.cellsOf 9 = 1 := by kernel_rfl
theorem block_lt {w : World} {a : Addr} {v : Value} (h : w.cell? a = some v) : a.block < w.heap.size := by
 unfold World.cell? at h
 by_cases hb : a.block < w.heap.size
 · exact hb
 · rw [Array.getElem?_eq_none (by omega)] at h
   cases h
def StrsAt (w : World) (b off n : Nat) (C : Nat → ByteArray) : Prop := ∀ i, i < n → w.cell? ⟨b, off + i, none⟩ = some (.string (C i))
def StrsIs (w : World) (v : Value) (n : Nat) (C : Nat → ByteArray) : Prop :=
 ∃ a cap, v = .slice a n cap ∧ n ≤ cap ∧ cap ≤ maxLen ∧ (a = none → cap = 0) ∧ (0 < n → ∃ b off, a = some ⟨b, off, none⟩ ∧ b < w.heap.size ∧ StrsAt w b off n C)
def ItsAt (w : World) (b off n : Nat) (X : Nat → It) : Prop :=
 ∀ i, i < n → w.cell? ⟨b, off + i * 3, none⟩ = some (.int .i64 (X i).kind) ∧ w.cell? ⟨b, off + i * 3 + 1, none⟩ = some (.int .i64 (X i).n) ∧ w.cell? ⟨b, off + i * 3 + 2, none⟩ = some (.string (X i).s)
def ItsIs (w : World) (v : Value) (n : Nat) (X : Nat → It) : Prop :=
 ∃ a cap, v = .slice a n cap ∧ n ≤ cap ∧ cap ≤ maxLen ∧ (a = none → cap = 0) ∧ (0 < n → ∃ b off, a = some ⟨b, off, none⟩ ∧ b < w.heap.size ∧ ItsAt w b off n X)
def RowsAt (w : World) (b off m : Nat) (R : Nat → Row) : Prop := ∀ i, i < m → ∃ u, w.cell? ⟨b, off + i, none⟩ = some u ∧ ItsIs w u (R i).len (R i).at_
def RowsIs (w : World) (v : Value) (m : Nat) (R : Nat → Row) : Prop :=
 ∃ a cap, v = .slice a m cap ∧ m ≤ cap ∧ cap ≤ maxLen ∧ (a = none → cap = 0) ∧ (0 < m → ∃ b off, a = some ⟨b, off, none⟩ ∧ b < w.heap.size ∧ RowsAt w b off m R)
theorem StrsAt.below {w w' : World} {b off n B : Nat} {C : Nat → ByteArray} (h : StrsAt w b off n C) (hb : Below B w w') (hB : b < B) : StrsAt w' b off n C :=
 fun i hi => (hb.cell (p := ⟨b, off + i, none⟩) hB).trans (h i hi)
theorem StrsIs.below {w w' : World} {v : Value} {n : Nat} {C : Nat → ByteArray} (h : StrsIs w v n C) (hb : Below w.heap.size w w') : StrsIs w' v n C := by
 obtain ⟨a, cap, h1, h2, h3, hn, h4⟩ := h
 refine ⟨a, cap, h1, h2, h3, hn, fun h0 => ?_⟩
 obtain ⟨b, off, h5, h6, h7⟩ := h4 h0
 exact ⟨b, off, h5, Nat.lt_of_lt_of_le h6 hb.size, h7.below hb h6⟩
theorem ItsAt.below {w w' : World} {b off n B : Nat} {X : Nat → It} (h : ItsAt w b off n X) (hb : Below B w w') (hB : b < B) : ItsAt w' b off n X :=
 fun i hi => ⟨(hb.cell (p := ⟨b, off + i * 3, none⟩) hB).trans (h i hi).1, (hb.cell (p := ⟨b, off + i * 3 + 1, none⟩) hB).trans (h i hi).2.1, (hb.cell (p := ⟨b, off + i * 3 + 2, none⟩) hB).trans (h i hi).2.2⟩
theorem ItsIs.below {w w' : World} {v : Value} {n : Nat} {X : Nat → It} (h : ItsIs w v n X) (hb : Below w.heap.size w w') : ItsIs w' v n X := by
 obtain ⟨a, cap, h1, h2, h3, hn, h4⟩ := h
 refine ⟨a, cap, h1, h2, h3, hn, fun h0 => ?_⟩
 obtain ⟨b, off, h5, h6, h7⟩ := h4 h0
 exact ⟨b, off, h5, Nat.lt_of_lt_of_le h6 hb.size, h7.below hb h6⟩
theorem RowsIs.below {w w' : World} {v : Value} {m : Nat} {R : Nat → Row} (h : RowsIs w v m R) (hb : Below w.heap.size w w') : RowsIs w' v m R := by
 obtain ⟨a, cap, h1, h2, h3, hn, h4⟩ := h
 refine ⟨a, cap, h1, h2, h3, hn, fun h0 => ?_⟩
 obtain ⟨b, off, h5, h6, h7⟩ := h4 h0
 refine ⟨b, off, h5, Nat.lt_of_lt_of_le h6 hb.size, fun i hi => ?_⟩
 obtain ⟨u, k1, k2⟩ := h7 i hi
 exact ⟨u, (hb.cell (p := ⟨b, off + i, none⟩) h6).trans k1, k2.below hb⟩
theorem spot_none {W : World} {b off : Nat} {spot} {v : Value} (h : W.cell? ((⟨b, off, spot⟩ : Addr).add 0) = some v) : spot = none := by
 simpa [Addr.add] using World.cell?_spot h
open Go.RowKit Go.ChangeShapes Go.WideShapes Go.Deep
structure Rw where
 k : Int
 a : Int
 b : Int
 c : Int
 t : ByteArray
def i64 (x : Int) : Prop := -9223372036854775808 ≤ x ∧ x ≤ 9223372036854775807
theorem i64_wf {x : Int} (h : (Lit.int .i64 x).wf = true) : i64 x := by
 unfold Lit.wf at h
 obtain ⟨h1, h2⟩ := Bool.and_eq_true_iff.1 h
 have h1 := of_decide_eq_true h1
 have h2 := of_decide_eq_true h2
 exact ⟨h1, h2⟩
def RawsAt (w : World) (b off n : Nat) (X : Nat → Rw) : Prop :=
 ∀ i, i < n → w.cell? ⟨b, off + i * 5, none⟩ = some (.int .i64 (X i).k) ∧ w.cell? ⟨b, off + i * 5 + 1, none⟩ = some (.int .i64 (X i).a) ∧ w.cell? ⟨b, off + i * 5 + 2, none⟩ = some (.int .i64 (X i).b) ∧ w.cell? ⟨b, off + i * 5 + 3, none⟩ = some (.int .i64 (X i).c) ∧ w.cell? ⟨b, off + i * 5 + 4, none⟩ = some (.string (X i).t)
def RawsIs (w : World) (v : Value) (n : Nat) (X : Nat → Rw) : Prop :=
 ∃ a cap, v = .slice a n cap ∧ n ≤ cap ∧ cap ≤ maxLen ∧ (0 < n → ∃ b off, a = some ⟨b, off, none⟩ ∧ b < w.heap.size ∧ RawsAt w b off n X)
def RawsFine (n : Nat) (X : Nat → Rw) : Prop := ∀ i, i < n → i64 (X i).k ∧ i64 (X i).a ∧ i64 (X i).b ∧ i64 (X i).c ∧ (X i).t.size ≤ maxLen
theorem RawsIs.below {w w' : World} {v : Value} {n : Nat} {X : Nat → Rw} (h : RawsIs w v n X) (hb : Below w.heap.size w w') : RawsIs w' v n X := by
 obtain ⟨a, cap, h1, h2, h3, h4⟩ := h
 refine ⟨a, cap, h1, h2, h3, fun h0 => ?_⟩
 obtain ⟨b, off, h5, h6, h7⟩ := h4 h0
 refine ⟨b, off, h5, Nat.lt_of_lt_of_le h6 hb.size, fun i hi => ?_⟩
 obtain ⟨k0, k1, k2, k3, k4⟩ := h7 i hi
 exact ⟨(hb.cell (p := ⟨b, off + i * 5, none⟩) h6).trans k0, (hb.cell (p := ⟨b, off + i * 5 + 1, none⟩) h6).trans k1, (hb.cell (p := ⟨b, off + i * 5 + 2, none⟩) h6).trans k2, (hb.cell (p := ⟨b, off + i * 5 + 3, none⟩) h6).trans k3, (hb.cell (p := ⟨b, off + i * 5 + 4, none⟩) h6).trans k4⟩
theorem cellsRaw : Tryz.prog.cellsOf 81 = 5 := by kernel_rfl
theorem open_five {H : Type} {enc : TypeId × Value → H} {P : Program} {w : World} {t : TypeId} {f0 f1 f2 f3 f4 : Field} {fuel : Nat} {cs : List Value} {x : DataW H × List MemPlace} (ht : P.underlying t = some (.struct #[f0, f1, f2, f3, f4]))
 (h : DataW.trod enc P w 0 (fun _ => true) true fuel t cs = some x) : ∃ n y0 y1 y2 y3 y4, cs.length = P.cellsOf t ∧ DataW.trod enc P w 0 (fun _ => true) true n f0.type ((cs.drop f0.offset).take (P.cellsOf f0.type)) = some y0 ∧ DataW.trod enc P w 0 (fun _ => true) true n f1.type ((cs.drop f1.offset).take (P.cellsOf f1.type)) = some y1 ∧ DataW.trod enc P w 0 (fun _ => true) true n f2.type ((cs.drop f2.offset).take (P.cellsOf f2.type)) = some y2 ∧ DataW.trod enc P w 0 (fun _ => true) true n f3.type ((cs.drop f3.offset).take (P.cellsOf f3.type)) = some y3 ∧ DataW.trod enc P w 0 (fun _ => true) true n f4.type ((cs.drop f4.offset).take (P.cellsOf f4.type)) = some y4 := by
 obtain ⟨xs, n, _, rfl, hl, hlen, hf⟩ := DataW.trod_struct ht h
 match xs, hlen with
 | [y0, y1, y2, y3, y4], _ =>
  exact ⟨n, y0, y1, y2, y3, y4, hl, by simpa using hf 0 f0 rfl, by simpa using hf 1 f1 rfl, by simpa using hf 2 f2 rfl, by simpa using hf 3 f3 rfl, by simpa using hf 4 f4 rfl⟩
theorem open_raw {H : Type} {enc : TypeId × Value → H} {W : World} {n : Nat} {cs : List Value} {x : DataW H × List MemPlace} (h : DataW.trod enc Tryz.prog W 0 (fun _ => true) true n 81 cs = some x) :
 ∃ e : Rw, cs = [.int .i64 e.k, .int .i64 e.a, .int .i64 e.b, .int .i64 e.c, .string e.t] ∧ i64 e.k ∧ i64 e.a ∧ i64 e.b ∧ i64 e.c ∧ e.t.size ≤ maxLen := by
 obtain ⟨m, y0, y1, y2, y3, y4, hl, h0, h1, h2, h3, h4⟩ := open_five Tryz.underlying81 h
 rw [cellsRaw] at hl
 match cs, hl with
 | [c0, c1, c2, c3, c4], _ =>
  simp only [cells3, cells9, List.drop_zero, List.drop_succ_cons, List.take_succ_cons, List.take_zero] at h0 h1 h2 h3 h4
  obtain ⟨k, e0, _, s0⟩ := DataW.trod_int Tryz.underlying3 h0
  obtain ⟨a, e1, _, s1⟩ := DataW.trod_int Tryz.underlying3 h1
  obtain ⟨b, e2, _, s2⟩ := DataW.trod_int Tryz.underlying3 h2
  obtain ⟨c, e3, _, s3⟩ := DataW.trod_int Tryz.underlying3 h3
  obtain ⟨t, e4, _, s4⟩ := DataW.trod_string Tryz.underlying9 h4
  simp only [List.cons.injEq, and_true] at e0 e1 e2 e3 e4
  subst e0 e1 e2 e3 e4
  exact ⟨⟨k, a, b, c, t⟩, rfl, i64_wf s0, i64_wf s1, i64_wf s2, i64_wf s3, s4⟩
theorem open_rawl {H : Type} {enc : TypeId × Value → H} {W : World} {fuel : Nat} {v : Value} {x : DataW H × List MemPlace} (h : DataW.trod enc Tryz.prog W 0 (fun _ => true) true fuel 22 [v] = some x) :
 ∃ (n : Nat) (X : Nat → Rw), RawsIs W v n X ∧ RawsFine n X := by
 rcases open_slice Tryz.underlying22 h with ⟨h1, _⟩ | ⟨a, len, cap, m, n, D, Pl, h1, hb, hl, hm, hmm, rfl, hx⟩
 · simp only [List.cons.injEq, and_true] at h1
   exact ⟨0, fun _ => ⟨0, 0, 0, 0, ⟨#[]⟩⟩, ⟨none, 0, h1, Nat.le_refl _, Nat.zero_le _, fun h => absurd h (Nat.lt_irrefl 0)⟩, fun i hi => absurd hi (Nat.not_lt_zero i)⟩
 simp only [if_true] at hmm
 subst hmm
 simp only [List.cons.injEq, and_true] at h1
 subst h1
 haveI : Inhabited Rw := ⟨⟨0, 0, 0, 0, ⟨#[]⟩⟩⟩
 obtain ⟨X, hX⟩ := choose_lt (α := Rw) (n := m) (p := fun i (e : Rw) => W.cells? 0 (a.add (i * 5)) 5 = some [.int .i64 e.k, .int .i64 e.a, .int .i64 e.b, .int .i64 e.c, .string e.t] ∧ i64 e.k ∧ i64 e.a ∧ i64 e.b ∧ i64 e.c ∧ e.t.size ≤ maxLen) (fun i hi => by
  obtain ⟨cs', h1, h2⟩ := hx i hi
  rw [cellsRaw] at h1
  obtain ⟨e, rfl, s2⟩ := open_raw h2
  exact ⟨e, h1, s2⟩)
 have hc : ∀ i, i < m → ∀ r, r < 5 → W.cell? (a.add (i * 5 + r)) = [Value.int .i64 (X i).k, .int .i64 (X i).a, .int .i64 (X i).b, .int .i64 (X i).c, .string (X i).t][r]? := fun i hi r hr => by
  obtain ⟨_, _, h3⟩ := World.cells?_some (hX i (by omega)).1
  rw [← add_add]
  exact h3 r hr
 refine ⟨len, X, ⟨some a, m, rfl, hl, hm, fun h0 => ?_⟩, fun i hi => (hX i (Nat.lt_of_lt_of_le hi hl)).2⟩
 obtain ⟨b, off, spot⟩ := a
 have h0' : 0 < m := Nat.lt_of_lt_of_le h0 hl
 obtain rfl := spot_none (hc 0 h0' 0 (by omega))
 refine ⟨b, off, rfl, by simpa [Addr.add] using block_lt (hc 0 h0' 0 (by omega)), fun i hi => ?_⟩
 have hi' : i < m := Nat.lt_of_lt_of_le hi hl
 have g0 := hc i hi' 0 (by omega)
 have g1 := hc i hi' 1 (by omega)
 have g2 := hc i hi' 2 (by omega)
 have g3 := hc i hi' 3 (by omega)
 have g4 := hc i hi' 4 (by omega)
 rw [add_plain] at g0 g1 g2 g3 g4
 exact ⟨g0, g1, g2, g3, g4⟩
theorem open_raws {H : Type} {enc : TypeId × Value → H} {W : World} {r : Reach} {b0 : Nat} {v : Value} {d : DataW H} {p : List MemPlace} (hv : Value.okWide Tryz.prog W r b0 22 v) (h : DataW.Trod enc Tryz.prog W 0 (fun _ => true) true 22 v d p) : ∃ (n : Nat) (X : Nat → Rw), RawsIs W v n X ∧ RawsFine n X := by
 obtain ⟨a0, len0, cap0, rfl⟩ := okWide_slice Tryz.underlying22 hv
 obtain ⟨fuel, hf⟩ := h
 exact open_rawl (v := .slice a0 len0 cap0) hf
open Go.RowKit Go.WideShapes
def pk (n many : Int) : Int := (if n < 0 then -(n + 1) else n).tmod many
theorem pk_range {n many : Int} (h0 : 0 < many) : 0 ≤ pk n many ∧ pk n many < many := by
 unfold pk
 have hx : 0 ≤ (if n < 0 then -(n + 1) else n) := by split <;> omega
 rw [Int.tmod_eq_emod_of_nonneg hx]
 exact ⟨Int.emod_nonneg _ (by omega), Int.emod_lt_of_pos _ h0⟩
set_option maxHeartbeats 400000 in
theorem picked_is (n many : Int) (w : World) (hn : -9223372036854775808 ≤ n ∧ n ≤ 9223372036854775807) (h0 : 0 < many) (hm : many ≤ 9223372036854775807) :
 Calls Tryz.prog 10 #[.int .i64 n, .int .i64 many] w fun e w' => e = .returned (.int .i64 (pk n many)) ∧ w' = w := by
 obtain ⟨n1, n2⟩ := hn
 have hz : ¬ many = 0 := by omega
 have hz1 : (many == 0) = false := by simpa using hz
 have hm1 : ¬ many = -1 := by omega
 have hm2 : (many == -1) = false := by simpa using hm1
 have hr := pk_range (n := n) h0
 by_cases hlt : n < 0
 · have HP : Hid (pk n many = (-(n + 1)).tmod many) := by
    have h : pk n many = (-(n + 1)).tmod many := by unfold pk; rw [if_pos hlt]
    exact h
   go_enter Tryz.func10, Tryz.ntmps10
   go_wp2
   go_ret
   exact ⟨ret_int (by rw [HP.out, Int.neg_tmod]), rfl⟩
 · have HP : Hid (pk n many = n.tmod many) := by
    have h : pk n many = n.tmod many := by unfold pk; rw [if_neg hlt]
    exact h
   go_enter Tryz.func10, Tryz.ntmps10
   go_wp2
   go_ret
   exact ⟨ret_int (by rw [HP.out, Int.tmod_eq_emod_of_nonneg (by omega)]), rfl⟩
theorem wpList_append_atK {P : Program} {ops : Array Oper} {rest : List Oper} {o : Oper} {a : Act} {w : World} {Q : Exit → Act → World → Prop} (hgd : o.guard = none) (s x : Operand) (t : TypeId)
 (ho : o.op = .call { callee := .builtin .append, args := #[s, x], argTypes := #[t, t] })
 (base : Nat) (e : TypeId) (i : TypeInfo) (z : Value) (size bytes : Nat) (ht : P.underlying t = some (.slice e)) (hi : P.info? e = some i) (hz : i.zero = some z)
 (hsize : i.size = size) (hby : i.bytes = bytes) (hzs : z.cells.size = size) (hsz : 0 < size)
 (v : Value) (n : Nat) (xs : List Value) (hs : a.eval s = v) (hown : w.ownsRow base e size v n xs)
 (ad : Addr) (m c : Nat) (news : List Value) (hx : a.eval x = .slice (some ad) m c) (hl : news.length = m * size) (hnews : ∀ j u, news[j]? = some u → w.cell? (ad.add j) = some u) (h1 : ∀ u ∈ news, u.oneCell' = true)
 (h63 : n + m ≤ maxLen) (hbytes : (n + m) * bytes ≤ 140737488355328) (hbase : base ≤ w.heap.size)
 (h : ∀ v' w', w'.ownsRow base e size v' (n + m) (xs ++ news) → w.grownBy w' v.ownBlock → (v'.ownBlock = v.ownBlock ∨ v'.ownBlock = some w.heap.size) → wpList P ops Q rest (a.put o.dst v') w') : wpList P ops Q (o :: rest) a w := by
 refine wpList_plain hgd fun K hK => ?_
 obtain ⟨v', w', hr, k1, k2, k3, k4⟩ := run_append_own_at (P := P) w base t o.type e i z size bytes ht hi hz hsize hby hzs hsz v n xs hown ad m c news hl hnews h1 h63 hbytes hbase
 unfold Oper.wp execOp
 simp only [ho, resolve, invoke, builtin, Sem.run_bind, Sem.run_pure, Result.andThen_ok, List.map_toArray, List.map_cons, List.map_nil, hs, hx, hr]
 exact hK _ _ (h v' w' k1 k2 k4)
theorem info_partsK {T : TypeId} {z : Value} {n b : Nat} (h : (Tryz.prog.info? T).map (fun i => (i.zero, i.size, i.bytes)) = some (some z, n, b)) : ∃ i, Tryz.prog.info? T = some i ∧ i.zero = some z ∧ i.size = n ∧ i.bytes = b := by
 cases e : Tryz.prog.info? T with
 | none => rw [e] at h; cases h
 | some i =>
  rw [e] at h
  simp only [Option.map_some, Option.some.injEq, Prod.mk.injEq] at h
  exact ⟨i, rfl, h.1, h.2.1, h.2.2⟩
theorem infoByK : (Tryz.prog.info? 5).map (fun i => (i.zero, i.size, i.bytes)) = some (some (.int .u8 0), 1, 1) := by kernel_rfl
def plN (t : ByteArray) (k : Nat) : List Int := (List.range k).map fun i => 97 + byteAt t i % 5
def plC (t : ByteArray) (k : Nat) : List Value := (plN t k).map fun z => .int .u8 z
theorem plC_succ (t : ByteArray) (k : Nat) : plC t (k + 1) = plC t k ++ [.int .u8 (97 + byteAt t k % 5)] := by simp [plC, plN, List.range_succ]
theorem by_in {w : World} (u : Value) : ∀ j x, ([u] : List Value)[j]? = some x → (w.alloc (.cells #[u] 5)).cell? ((⟨w.heap.size, 0, none⟩ : Addr).add j) = some x := by
 intro j x hj
 have hj3 : j < 1 := (List.getElem?_eq_some_iff.1 hj).1
 obtain rfl : j = 0 := by omega
 simp at hj; subst hj; simp [Addr.add]
theorem add_offK (g j : Nat) : (⟨g, 0, none⟩ : Addr).add j = ⟨g, j, none⟩ := by cases j <;> simp [Addr.add]
theorem plN_at {t : ByteArray} {k i : Nat} (hi : i < k) : (plN t k).getD i 0 = 97 + byteAt t i % 5 := by simp [plN, List.getD_eq_getElem?_getD, hi]
theorem conv_row {w : World} {base : Nat} {v : Value} {t : ByteArray} {k : Nat} (h : w.ownsRow base 5 1 v k (plC t k)) :
 (convert 63 9 v).run Tryz.prog w = .ok (.string (strOfNums (plN t k))) w := by
 have hc := @World.ownsRow.cells _ _ _ _ _ _ _ h
 rcases h.2 with ⟨rfl, rfl⟩ | ⟨g, cap, cur, rfl, hb, hg, hn, hm, hz, ht⟩
 · exact run_convert_bytes_nil (P := Tryz.prog) (w := w) 63 5 Tryz.underlying63 Tryz.underlying5 0 0 9 Tryz.underlying9
 · refine run_convert_bytes_arg (P := Tryz.prog) (w := w) 63 5 Tryz.underlying63 Tryz.underlying5 g 0 k cap (plN t k) (by simp [plN]) (fun i hi => ?_) 9 Tryz.underlying9
   have e : (plC t k)[i]? = some (.int .u8 (97 + byteAt t i % 5)) := by simp [plC, plN, hi]
   have := hc (g := g) rfl i _ e
   rw [add_offK] at this
   rw [Nat.zero_add, plN_at hi]
   exact this
set_option maxHeartbeats 1600000 in
theorem plain_any (t : ByteArray) (m : Nat) (w : World) (ht : t.size ≤ maxLen) (hm : m ≤ 1000) :
 Calls Tryz.prog 61 #[.string t, .int .i64 m] w fun e w' => e = .returned (.string (strOfNums (plN t (min m t.size)))) ∧ Below w.heap.size w w' := by
 unfold maxLen at ht
 obtain ⟨i0, hi0, hz0, hz1, hz2⟩ := info_partsK infoByK
 go_enter Tryz.func61, Tryz.ntmps61
 go_wp2
 go_loopw [5, 6] (fun v i wr => ∃ k : Nat, k ≤ m ∧ k ≤ t.size ∧ i = .int .i64 k ∧ wr.ownsRow w.heap.size 5 1 v k (plC t k) ∧ Below w.heap.size w wr) (fun _ i _ => m - (intOf i).toNat)
 case atStart => exact ⟨0, Nat.zero_le _, Nat.zero_le _, rfl, World.ownsRow_nil _ _ _ _, Below.refl _ _⟩
 case round =>
  obtain ⟨k, hkm, hkt, rfl, hown, hbr⟩ := hrel
  have HBR : Hid (Below w.heap.size w wr) := hbr
  have HOW : Hid (wr.ownsRow w.heap.size 5 1 u5 k (plC t k)) := hown
  have hzr : w.heap.size ≤ wr.heap.size := hbr.size
  have kc := conv_row hown
  have hsh : ∃ a c, u5 = .slice a k c := by
   obtain ⟨_, ⟨rfl, rfl⟩ | ⟨b, cap, cur, rfl, _⟩⟩ := hown
   · exact ⟨_, _, rfl⟩
   · exact ⟨_, _, rfl⟩
  obtain ⟨va, vc, rfl⟩ := hsh
  clear hbr hown
  by_cases h1 : k < t.size
  · have hi1 : (k : Int) < (t.size : Int) := by omega
    by_cases h2 : k < m
    · have hi2 : (k : Int) < (m : Int) := by omega
      have HE : Hid ((t[k].toNat : Int) = byteAt t k) := byteAt_eq t k h1
      clear kc
      go_wp2_with (first | (at_builtin; refine wpList_append_atK rfl (.tmp 19) (.tmp 25) 63 rfl w.heap.size 5 i0 _ 1 1 Tryz.underlying63 hi0 hz0 hz1 hz2 rfl (by decide) _ _ _ rfl (HOW.out.alloc _) ⟨wr.heap.size, 0, none⟩ 1 1 [.int .u8 (97 + (t[k].toNat : Int) % 5)] rfl rfl (by_in _) (by simp [Value.oneCell']) (by unfold maxLen; omega) (by omega) (by simp <;> omega) ?_; intro v6 w6 hown6 hgrow6 hk6; have HW6 : Hid (w6.ownsRow w.heap.size 5 1 v6 (k + 1) (plC t (k + 1))) := (by rw [plC_succ, ← HE.out]; exact hown6); have HB6 : Hid (Below w.heap.size w w6) := Below.grown (HBR.out.alloc hzr _) hgrow6 (by simp; omega) (fun q hq => (World.ownsRow.lt HOW.out q hq).1); clear hown6 hgrow6 hk6))
      go_roundw
      case rel => exact ⟨k + 1, by omega, by omega, by go_num, HW6.out, HB6.out⟩
      case measure => simp [intOf]; omega
    · obtain rfl : m = k := by omega
      have HK : Hid (min m t.size = m) := by have h : min m t.size = m := by omega
                                             exact h
      go_wp2
      all_goals
       go_ret
       exact ⟨by rw [HK.out]; rfl, HBR.out⟩
  · have hi1 : ¬ (k : Int) < (t.size : Int) := by omega
    have HK : Hid (min m t.size = k) := by have h : min m t.size = k := by omega
                                           exact h
    go_wp2
    all_goals
     go_ret
     exact ⟨by rw [HK.out]; rfl, HBR.out⟩
end Go.Proofs.YtbnlekhjgkojlaaGreatDoor
