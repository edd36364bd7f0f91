/-
  CONTRACTS of package core: expr and Lower of a Flwor: a ForIn, a Where, an OrderBy, each of a Lit, around a Lit.
-/
import Derived.Test.YtkhlfdnlpimojaaDoorLcL
import Derived.Test.YtkhlfdnlpimojaaDoorCkCheck
set_option linter.unusedVariables false
namespace Go.Proofs.YtkhlfdnlpimojaaDoor
set_option maxRecDepth 100000
open Go.RowKit Go.WideShapes Go.Shelf
attribute [local go_sem] Oper.semAt_some

set_option maxHeartbeats 6400000 in
theorem expr_three (lb sb : Nat) (m1 m2 : Value) (N : ByteArray → Nat) (p B0 : Nat) (it pit : It) (nmf atf pnm : ByteArray) (pn pax ptk : Int) (ptn : ByteArray) (pb po ab ao ac cb co cc : Nat) (K : Nat → Int) (NN AA : Nat → ByteArray) (w : World)
    (hl : w.heap[lb]? = some (.cells #[m1, m2, .map (some sb), .int .i64 ((p : Nat) : Int), .int .i64 0] 49)) (hp : p + 8 ≤ 700) (hS : SMap w sb N) (hN : ∀ y, N y ≤ 4000) (hsl : sb ≠ lb) (hB1 : B0 ≤ lb) (hB2 : B0 ≤ sb) (hTB : ∀ W, Below B0 w W → Tabs W)
    (hph : PhAt w pb po 28 pit pnm pn pax ptk ptn (.slice (some ⟨ab, ao, none⟩) 1 ac) (.slice (some ⟨cb, co, none⟩) 3 cc)) (hpb : pb < w.heap.size) (hpl : pb ≠ lb) (hps : pb ≠ sb)
    (hcl : ∀ jj, jj < 3 → ClAt w cb (co + jj * 15) (K jj) (NN jj) (AA jj)) (hce : ∀ jj, jj < 3 → ∃ nm n ax tk tn cv, PhAt w cb (co + jj * 15 + 4) 1 it nm n ax tk tn (.slice none 0 0) cv) (hcb : cb < w.heap.size) (hcbl : cb ≠ lb) (hcbs : cb ≠ sb)
    (hbe : ∃ nm n ax tk tn cv, PhAt w ab ao 1 it nm n ax tk tn (.slice none 0 0) cv) (hab : ab < w.heap.size) (habl : ab ≠ lb) (habs : ab ≠ sb)
    (hK0 : K 0 = 1) (hK1 : K 1 = 3) (hK2 : K 2 = 4) (hn0 : NN 0 = nmf) (ha0 : AA 0 = atf) (hnf : nmf.size ≤ 4000) (haf : atf.size ≤ 4000) (hdn : w.cell? ⟨cb, co + 33, none⟩ = some (.bool false)) (hits : it.s.size ≤ 4000) (hlit : litF it = 0) (hc3 : 3 ≤ cc) (hcm : cc ≤ maxLen) (hclF : clF 3 K NN AA = 0) :
    Calls Tryd.prog 9 #[.pointer (some ⟨lb, 0, none⟩), .pointer (some ⟨pb, po, none⟩)] w fun e w' => FlT lb sb m1 m2 p B0 it nmf atf w e w' := by
  have HL := hidC hl
  have HP := hidC hph
  have s6 : sb < w.heap.size := hS.lt
  obtain ⟨_, _, _, _, l4, l5, l6⟩ := bk5 hl
  have CA : Hid (∀ W, Below w.heap.size w W → Calls Tryd.prog 13 #[.pointer (some ⟨lb, 0, none⟩), .pointer (some ⟨pb, po, none⟩)] W fun e w' => e = .returned (.int .i64 0) ∧ Below W.heap.size W w') := fun W hW => hclF ▸ alone_flwor lb pb po pit pnm pn pax ptk ptn (some ⟨ab, ao, none⟩) ac cb co 3 cc K NN AA W (hph.below hW hpb) (Nat.lt_of_lt_of_le hpb hW.size) hc3 hcm (fun i hi => (hcl i hi).below hW hcb) (Nat.lt_of_lt_of_le hcb hW.size)
  have CM : Hid (∀ W, W.heap[lb]? = some (.cells #[m1, m2, .map (some sb), .int .i64 ((p : Nat) : Int), .int .i64 0] 49) → (∀ c, c < w.heap.size → c ≠ lb → W.heap[c]? = w.heap[c]?) → Below lb w W → Calls Tryd.prog 17 #[.pointer (some ⟨lb, 0, none⟩), .pointer (some ⟨pb, po, none⟩)] W fun e w' => FlT lb sb m1 m2 p B0 it nmf atf W e w') := fun W h1 h2 h3 => by
    have hz := h3.size
    exact flwor_three lb sb m1 m2 N p B0 it pit nmf atf pnm pn pax ptk ptn pb po ab ao ac cb co cc K NN AA W h1 hp (hS.keep (h2 sb s6 hsl)) hN hsl hB1 hB2 (fun V hV => hTB V ((h3.mono hB1).trans hV)) (hph.block (h2 pb hpb hpl)) (by omega) hpl hps (fun j hj => (hcl j hj).block (h2 cb hcb hcbl)) (fun j hj => by obtain ⟨nm, n, ax, tk, tn, cv, hq⟩ := hce j hj; exact ⟨nm, n, ax, tk, tn, cv, hq.block (h2 cb hcb hcbl)⟩) (by omega) hcbl hcbs (by obtain ⟨nm, n, ax, tk, tn, cv, hq⟩ := hbe; exact ⟨nm, n, ax, tk, tn, cv, hq.block (h2 ab hab habl)⟩) (by omega) habl habs hK0 hK1 hK2 hn0 ha0 hnf haf ((cellq (h2 cb hcb hcbl)).trans hdn) hits hlit
  clear hph hl hp hTB hN hcl hce hbe hK0 hK1 hK2 hn0 ha0 hdn hlit hclF hcm hc3 hS
  go_enter Tryd.func9, Tryd.ntmps9
  go_upto_region 3 with (go_at_call 13; refine (CA.out _ ?_).mono ?_; (· exact (Below.refl _ _).alloc (Nat.le_refl _) _); rintro e w1 ⟨rfl, hb1⟩; have HB1 : Hid (Below w.heap.size w w1) := Below.trans ((Below.refl _ _).alloc (Nat.le_refl _) _) (hb1.mono (by simp)); have HL1 := hidC (blC HB1.out l6 HL.out); have HZ1 := hidC ((hb1.block w.heap.size (by simp)).trans (aNew rfl)); obtain ⟨_, _, _, _, m4, m5, m6⟩ := bk5 HL1.out; have hz1 := HB1.out.size; clear hb1)
  obtain ⟨W1, hW1⟩ : ∃ W, W = w1.setCell ⟨lb, 4, none⟩ (.int .i64 0) := ⟨_, rfl⟩
  rw [← hW1]
  have HL2 : Hid (W1.heap[lb]? = some (.cells #[m1, m2, .map (some sb), .int .i64 ((p : Nat) : Int), .int .i64 0] 49)) := by rw [hW1]; exact heap_set_same HL1.out 4 _
  have HR2 : Hid (W1.heap[w.heap.size]? = some (.cells #[.int .i64 0, .int .i64 0, .int .i64 0, .string ⟨#[]⟩, .string ⟨#[]⟩, .string ⟨#[]⟩, .int .i64 0, .int .i64 0, .int .i64 0, .string ⟨#[]⟩, .slice none 0 0] 39)) := by rw [hW1]; exact sOth HZ1.out (by omega)
  have HO2 : Hid (∀ c, c < w.heap.size → c ≠ lb → W1.heap[c]? = w.heap[c]?) := by rw [hW1]; exact fun c h1 h2 => (Below.heap_setCell _ _ _ _ h2).trans (HB1.out.block c h1)
  have HB2 : Hid (Below lb w W1) := by rw [hW1]; exact Below.setCell (Below.mono HB1.out (Nat.le_of_lt l6)) (Nat.le_refl lb) _
  have hz2 : w.heap.size < W1.heap.size := (Array.getElem?_eq_some_iff.1 HR2.out).1
  obtain ⟨_, _, _, _, l4', _, _⟩ := bk5 HL2.out
  have c0 := (HP.out.block (HO2.out pb hpb hpl)).c0
  clear hW1 HL1 HZ1 HB1 CA m4 m5 m6 l4 l5 hz1 HL HP
  go_wp2_with (go_at_call 17; refine (CM.out _ HL2.out HO2.out HB2.out).mono ?_; (intro e w3 hF); (unfold FlT at hF); obtain ⟨n13, n12, n100, rfl, hl1, ho1, hb1, q13, f13, q12, f12, q100, f100⟩ := hF; have HL1 := hidC hl1; have HZ1 := hidC ((ho1 (w.heap.size) hz2 (by omega) (by omega)).trans HR2.out); have HO1 : Hid (∀ b, b < w.heap.size → b ≠ lb → b ≠ sb → w3.heap[b]? = w.heap[b]?) := (fun b hb hne hn2 => (ho1 b (by omega) hne hn2).trans (HO2.out b hb hne)); have HB1 : Hid (Below B0 w w3) := (HB2.out.mono hB1).trans hb1; have F13 := hidC f13; have F12 := hidC f12; have F100 := hidC f100; obtain ⟨z0, z1, z2, z3, z4, z5, z6, z7, z8, z9, z10, z11, z12⟩ := bk11 HZ1.out; clear hl1 ho1 hb1 f13 f12 f100 HL2 HR2 HO2 HB2)
  obtain ⟨W2, hW2⟩ : ∃ W, W = (((((((((((w3).setCell ⟨w.heap.size, 0, none⟩ (.int .i64 6)).setCell ⟨w.heap.size, 1, none⟩ (.int .i64 0)).setCell ⟨w.heap.size, 2, none⟩ (.int .i64 0)).setCell ⟨w.heap.size, 3, none⟩ (.string ⟨#[]⟩)).setCell ⟨w.heap.size, 4, none⟩ (.string nmf)).setCell ⟨w.heap.size, 5, none⟩ (.string atf)).setCell ⟨w.heap.size, 6, none⟩ (.int .i64 0)).setCell ⟨w.heap.size, 7, none⟩ (.int .i64 0)).setCell ⟨w.heap.size, 8, none⟩ (.int .i64 0)).setCell ⟨w.heap.size, 9, none⟩ (.string ⟨#[]⟩)).setCell ⟨w.heap.size, 10, none⟩ (.slice (some ⟨n13, 0, none⟩) 3 3) := ⟨_, rfl⟩
  have hW3 : W2 = putL w3 (w.heap.size) 0 [.int .i64 6, .int .i64 0, .int .i64 0, .string ⟨#[]⟩, .string nmf, .string atf, .int .i64 0, .int .i64 0, .int .i64 0, .string ⟨#[]⟩, .slice (some ⟨n13, 0, none⟩) 3 3] := hW2
  have HZ2 : Hid (W2.heap[w.heap.size]? = some (.cells #[.int .i64 6, .int .i64 0, .int .i64 0, .string ⟨#[]⟩, .string nmf, .string atf, .int .i64 0, .int .i64 0, .int .i64 0, .string ⟨#[]⟩, .slice (some ⟨n13, 0, none⟩) 3 3] 39)) := by rw [hW3]; exact putL_same HZ1.out _ rfl
  have hO : ∀ c, c ≠ w.heap.size → W2.heap[c]? = w3.heap[c]? := fun c h => by rw [hW3]; exact putL_other h _ _ _
  have HB2 : Hid (Below B0 w W2) := by rw [hW3]; exact putL_below (B := B0) (by omega) _ _ _ HB1.out
  rw [← hW2]
  clear hW2 hW3
  obtain ⟨y0, y1, y2, y3, y4, y5, y6, y7, y8, y9, y10, _, _⟩ := bk11 HZ2.out
  refine bodyPost_ret (v := .agg #[.int .i64 6, .int .i64 0, .int .i64 0, .string ⟨#[]⟩, .string nmf, .string atf, .int .i64 0, .int .i64 0, .int .i64 0, .string ⟨#[]⟩, .slice (some ⟨n13, 0, none⟩) 3 3]) (by simp [results, Tryd.results9, go_sem, y0, y1, y2, y3, y4, y5, y6, y7, y8, y9, y10]) rfl ?_
  refine (show FlT lb sb m1 m2 p B0 it nmf atf w _ _ from ?_)
  unfold FlT
  exact ⟨n13, n12, n100, rfl, (hO lb (by omega)).trans HL1.out, fun c h1 h2 h3 => (hO c (by omega)).trans (HO1.out c h1 h2 h3), HB2.out, by omega, (hO n13 (by omega)).trans F13.out, by omega, (hO n12 (by omega)).trans F12.out, by omega, (hO n100 (by omega)).trans F100.out⟩

/-- the expression that three such clauses come to -/
def litX (it : It) : Ex := .mk 1 it ⟨#[]⟩ ⟨#[]⟩ 0 0 0 ⟨#[]⟩ 0 (fun _ => .no)
def calX (it : It) : Ex := .mk 8 ⟨0, 0, ⟨#[]⟩⟩ ⟨#[98, 111, 111, 108, 101, 97, 110]⟩ ⟨#[]⟩ 0 0 0 ⟨#[]⟩ 1 (fun _ => litX it)
def ifX (it : It) : Ex := .mk 7 ⟨0, 0, ⟨#[]⟩⟩ ⟨#[]⟩ ⟨#[]⟩ 0 0 0 ⟨#[]⟩ 3 (fun i => if i = 0 then calX it else if i = 1 then litX it else .mk 3 ⟨0, 0, ⟨#[]⟩⟩ ⟨#[]⟩ ⟨#[]⟩ 0 0 0 ⟨#[]⟩ 0 (fun _ => .no))
def srtX (it : It) (nmf atf : ByteArray) : Ex := .mk 6 ⟨0, 0, ⟨#[]⟩⟩ nmf atf 0 0 0 ⟨#[]⟩ 3 (fun i => if i = 0 then litX it else if i = 1 then litX it else ifX it)
theorem headAt_of {w : World} {b off : Nat} {k : Int} {it : It} {nm a : ByteArray} {n ax tk : Int} {tn : ByteArray} {v : Value} {cs : Array Value} {T : TypeId} (h : w.heap[b]? = some (.cells cs T)) (h0 : ∀ i u, (#[Value.int .i64 k, .int .i64 it.kind, .int .i64 it.n, .string it.s, .string nm, .string a, .int .i64 n, .int .i64 ax, .int .i64 tk, .string tn, v] : Array Value)[i]? = some u → cs[off + i]? = some u) (s1 : it.s.size ≤ maxLen) (s2 : nm.size ≤ maxLen) (s3 : a.size ≤ maxLen) : HeadAt w b off k it nm a n ax tk tn v := by
  have e : ∀ o, w.cell? ⟨b, o, none⟩ = cs[o]? := fun o => Lib.cell_of_heap h o
  constructor
  all_goals first | exact s1 | exact s2 | exact s3 | (rw [e]; first | exact h0 0 _ rfl | exact h0 1 _ rfl | exact h0 2 _ rfl | exact h0 3 _ rfl | exact h0 4 _ rfl | exact h0 5 _ rfl | exact h0 6 _ rfl | exact h0 7 _ rfl | exact h0 8 _ rfl | exact h0 9 _ rfl | exact h0 10 _ rfl)
theorem eleven {cs : Array Value} {off : Nat} {x0 x1 x2 x3 x4 x5 x6 x7 x8 x9 x10 : Value} (h0 : cs[off + 0]? = some x0) (h1 : cs[off + 1]? = some x1) (h2 : cs[off + 2]? = some x2) (h3 : cs[off + 3]? = some x3) (h4 : cs[off + 4]? = some x4) (h5 : cs[off + 5]? = some x5) (h6 : cs[off + 6]? = some x6) (h7 : cs[off + 7]? = some x7) (h8 : cs[off + 8]? = some x8) (h9 : cs[off + 9]? = some x9) (h10 : cs[off + 10]? = some x10) : ∀ i u, (#[x0, x1, x2, x3, x4, x5, x6, x7, x8, x9, x10] : Array Value)[i]? = some u → cs[off + i]? = some u := by
  intro i u hi
  have h11 : i < 11 := (Array.getElem?_eq_some_iff.1 hi).1
  match i, h11 with
  | 0, _ => cases hi; exact h0
  | 1, _ => cases hi; exact h1
  | 2, _ => cases hi; exact h2
  | 3, _ => cases hi; exact h3
  | 4, _ => cases hi; exact h4
  | 5, _ => cases hi; exact h5
  | 6, _ => cases hi; exact h6
  | 7, _ => cases hi; exact h7
  | 8, _ => cases hi; exact h8
  | 9, _ => cases hi; exact h9
  | 10, _ => cases hi; exact h10
theorem srtX_V (w : World) (B n13 n12 n100 : Nat) (it : It) (nmf atf : ByteArray) (h1 : it.s.size ≤ 4000) (h2 : nmf.size ≤ 4000) (h3 : atf.size ≤ 4000)
    (f13 : w.heap[n13]? = some (.cells #[.int .i64 1, .int .i64 (it.kind), .int .i64 (it.n), .string it.s, .string ⟨#[]⟩, .string ⟨#[]⟩, .int .i64 0, .int .i64 0, .int .i64 0, .string ⟨#[]⟩, .slice none 0 0, .int .i64 1, .int .i64 (it.kind), .int .i64 (it.n), .string it.s, .string ⟨#[]⟩, .string ⟨#[]⟩, .int .i64 0, .int .i64 0, .int .i64 0, .string ⟨#[]⟩, .slice none 0 0, .int .i64 7, .int .i64 0, .int .i64 0, .string ⟨#[]⟩, .string ⟨#[]⟩, .string ⟨#[]⟩, .int .i64 0, .int .i64 0, .int .i64 0, .string ⟨#[]⟩, .slice (some ⟨n12, 0, none⟩) 3 3] 39)) (f12 : w.heap[n12]? = some (.cells #[.int .i64 8, .int .i64 0, .int .i64 0, .string ⟨#[]⟩, .string ⟨#[98, 111, 111, 108, 101, 97, 110]⟩, .string ⟨#[]⟩, .int .i64 0, .int .i64 0, .int .i64 0, .string ⟨#[]⟩, .slice (some ⟨n100, 0, none⟩) 1 1, .int .i64 1, .int .i64 (it.kind), .int .i64 (it.n), .string it.s, .string ⟨#[]⟩, .string ⟨#[]⟩, .int .i64 0, .int .i64 0, .int .i64 0, .string ⟨#[]⟩, .slice none 0 0, .int .i64 3, .int .i64 0, .int .i64 0, .string ⟨#[]⟩, .string ⟨#[]⟩, .string ⟨#[]⟩, .int .i64 0, .int .i64 0, .int .i64 0, .string ⟨#[]⟩, .slice none 0 0] 39)) (f100 : w.heap[n100]? = some (.cells #[.int .i64 1, .int .i64 (it.kind), .int .i64 (it.n), .string it.s, .string ⟨#[]⟩, .string ⟨#[]⟩, .int .i64 0, .int .i64 0, .int .i64 0, .string ⟨#[]⟩, .slice none 0 0] 39)) (b13 : n13 < B) (b12 : n12 < B) (b100 : n100 < B) : (srtX it nmf atf).V w B (.agg #[.int .i64 6, .int .i64 0, .int .i64 0, .string ⟨#[]⟩, .string nmf, .string atf, .int .i64 0, .int .i64 0, .int .i64 0, .string ⟨#[]⟩, .slice (some ⟨n13, 0, none⟩) 3 3]) := by
  have e0 : (⟨#[]⟩ : ByteArray).size ≤ maxLen := Nat.zero_le _
  have eb : (⟨#[98, 111, 111, 108, 101, 97, 110]⟩ : ByteArray).size ≤ maxLen := by unfold maxLen; decide
  have s1 : it.s.size ≤ maxLen := by unfold maxLen; omega
  have s2 : nmf.size ≤ maxLen := by unfold maxLen; omega
  have s3 : atf.size ≤ maxLen := by unfold maxLen; omega
  have m0 : 0 ≤ maxLen := Nat.zero_le _
  have m1 : 1 ≤ maxLen := by unfold maxLen; omega
  have m3 : 3 ≤ maxLen := by unfold maxLen; omega
  have lit : ∀ b off cs, w.heap[b]? = some (.cells cs 39) → b < B → (∀ i u, (#[.int .i64 1, .int .i64 (it.kind), .int .i64 (it.n), .string it.s, .string ⟨#[]⟩, .string ⟨#[]⟩, .int .i64 0, .int .i64 0, .int .i64 0, .string ⟨#[]⟩, .slice none 0 0] : Array Value)[i]? = some u → cs[off + i]? = some u) → (litX it).At w B b off := fun b off cs hb hB hcs => ⟨hB, none, 0, headAt_of hb hcs s1 e0 e0, Nat.le_refl _, m0, fun h => absurd h (by decide)⟩
  refine ⟨some ⟨n13, 0, none⟩, 3, rfl, e0, s2, s3, Nat.le_refl _, m3, fun _ => ⟨n13, 0, rfl, b13, ?_⟩⟩
  intro i hi
  match i, hi with
  | 0, _ => exact lit n13 _ _ f13 b13 (eleven rfl rfl rfl rfl rfl rfl rfl rfl rfl rfl rfl)
  | 1, _ => exact lit n13 _ _ f13 b13 (eleven rfl rfl rfl rfl rfl rfl rfl rfl rfl rfl rfl)
  | 2, _ =>
    refine ⟨b13, some ⟨n12, 0, none⟩, 3, headAt_of f13 (eleven rfl rfl rfl rfl rfl rfl rfl rfl rfl rfl rfl) e0 e0 e0, Nat.le_refl _, m3, fun _ => ⟨n12, 0, rfl, b12, ?_⟩⟩
    intro i hi
    match i, hi with
    | 0, _ => exact ⟨b12, some ⟨n100, 0, none⟩, 1, headAt_of f12 (eleven rfl rfl rfl rfl rfl rfl rfl rfl rfl rfl rfl) e0 eb e0, Nat.le_refl _, m1, fun _ => ⟨n100, 0, rfl, b100, fun i hi => by
        obtain rfl : i = 0 := by omega
        exact lit n100 _ _ f100 b100 (eleven rfl rfl rfl rfl rfl rfl rfl rfl rfl rfl rfl)⟩⟩
    | 1, _ => exact lit n12 _ _ f12 b12 (eleven rfl rfl rfl rfl rfl rfl rfl rfl rfl rfl rfl)
    | 2, _ => exact ⟨b12, none, 0, headAt_of f12 (eleven rfl rfl rfl rfl rfl rfl rfl rfl rfl rfl rfl) e0 e0 e0, Nat.le_refl _, m0, fun h => absurd h (by decide)⟩
end Go.Proofs.YtkhlfdnlpimojaaDoor
