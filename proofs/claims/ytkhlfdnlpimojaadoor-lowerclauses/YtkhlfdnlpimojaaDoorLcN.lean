/-
  CONTRACTS of package core: Lower of a Flwor: a ForIn, a Where, an OrderBy, each of a Lit, around a Lit.
-/
import Derived.Test.YtkhlfdnlpimojaaDoorLcM
set_option linter.unusedVariables false
namespace Go.Proofs.YtkhlfdnlpimojaaDoor
set_option maxRecDepth 100000
open Go.RowKit Go.WideShapes Go.Shelf
attribute [local go_sem] Oper.semAt_some

theorem srtX_nodes (it : It) (nmf atf : ByteArray) : nodesX (srtX it nmf atf) ≤ 1048576 := by
  have h : nodesX (srtX it nmf atf) = 8 := by kernel_rfl
  rw [h]; decide
set_option maxHeartbeats 6400000 in
theorem Lower_three (it pit : It) (nmf atf pnm : ByteArray) (pn pax ptk : Int) (ptn : ByteArray) (ab ao ac cb co cc : Nat) (K : Nat → Int) (NN AA : Nat → ByteArray) (w : World) (hT : Tabs w)
    (hcl : ∀ jj, jj < 3 → ClAt w cb (co + jj * 15) (K jj) (NN jj) (AA jj)) (hce : ∀ jj, jj < 3 → ∃ nm n ax tk tn cv, PhAt w cb (co + jj * 15 + 4) 1 it nm n ax tk tn (.slice none 0 0) cv) (hcb : cb < w.heap.size)
    (hbe : ∃ nm n ax tk tn cv, PhAt w ab ao 1 it nm n ax tk tn (.slice none 0 0) cv) (hab : ab < w.heap.size)
    (hK0 : K 0 = 1) (hK1 : K 1 = 3) (hK2 : K 2 = 4) (hn0 : NN 0 = nmf) (ha0 : AA 0 = atf) (hnf : nmf.size ≤ 4000) (haf : atf.size ≤ 4000) (hdn : w.cell? ⟨cb, co + 33, none⟩ = some (.bool false)) (hits : it.s.size ≤ 4000) (hlit : litF it = 0) (hc3 : 3 ≤ cc) (hcm : cc ≤ maxLen) (hclF : clF 3 K NN AA = 0) (hcore : coreF (srtX it nmf atf) = 0) :
    Calls Tryd.prog 6 #[.agg #[.int .i64 28, .int .i64 pit.kind, .int .i64 pit.n, .string pit.s, .string pnm, .int .i64 pn, .int .i64 pax, .int .i64 ptk, .string ptn, .slice (some ⟨ab, ao, none⟩) 1 ac, .slice (some ⟨cb, co, none⟩) 3 cc]] w fun e w' => ∃ n13 : Nat, e = .returned (.tuple #[.agg #[.int .i64 6, .int .i64 0, .int .i64 0, .string ⟨#[]⟩, .string nmf, .string atf, .int .i64 0, .int .i64 0, .int .i64 0, .string ⟨#[]⟩, .slice (some ⟨n13, 0, none⟩) 3 3], .int .i64 0]) ∧ Below w.heap.size w w' := by
  have CK : Hid (∀ W, Calls Tryd.prog 7 #[] W fun e w' => e = .returned (.map (some W.heap.size)) ∧ VMap w' W.heap.size callsV ∧ Below W.heap.size W w') := calls_is
  have CO : Hid (∀ W, Calls Tryd.prog 8 #[] W fun e w' => e = .returned (.map (some W.heap.size)) ∧ VMap w' W.heap.size opersV ∧ Below W.heap.size W w') := operators_is
  have HTT := hidC hT
  have CE0 : Hid (∀ (W : World) (lb sb : Nat) (m1 m2 : Value), Below w.heap.size w W → W.heap[lb]? = some (.cells #[m1, m2, .map (some sb), .int .i64 ((0 : Nat) : Int), .int .i64 0] 49) → SMap W sb (fun _ => 0) → sb ≠ lb → w.heap.size ≤ lb → w.heap.size ≤ sb → PhAt W w.heap.size 0 28 pit pnm pn pax ptk ptn (.slice (some ⟨ab, ao, none⟩) 1 ac) (.slice (some ⟨cb, co, none⟩) 3 cc) → w.heap.size < W.heap.size → w.heap.size ≠ lb → w.heap.size ≠ sb → Calls Tryd.prog 9 #[.pointer (some ⟨lb, 0, none⟩), .pointer (some ⟨w.heap.size, 0, none⟩)] W fun e w' => FlT lb sb m1 m2 0 w.heap.size it nmf atf W e w') := fun W lb sb m1 m2 hW h1 h2 h3 h4 h5 h6 h7 h8 h9 =>
    expr_three lb sb m1 m2 (fun _ => 0) 0 w.heap.size it pit nmf atf pnm pn pax ptk ptn w.heap.size 0 ab ao ac cb co cc K NN AA W h1 (by decide) h2 (fun _ => by decide) h3 h4 h5 (fun V hV => Utf8Tabs_below hT (hW.trans hV)) h6 h7 h8 h9 (fun j hj => (hcl j hj).below hW hcb) (fun j hj => by obtain ⟨nm, n, ax, tk, tn, cv, hq⟩ := hce j hj; exact ⟨nm, n, ax, tk, tn, cv, hq.below hW hcb⟩) (by omega) (by omega) (by omega) (by obtain ⟨nm, n, ax, tk, tn, cv, hq⟩ := hbe; exact ⟨nm, n, ax, tk, tn, cv, hq.below hW hab⟩) (by omega) (by omega) (by omega) hK0 hK1 hK2 hn0 ha0 hnf haf ((hW.cell (p := ⟨cb, co + 33, none⟩) hcb).trans hdn) hits hlit hc3 hcm hclF
  have CC : Hid (∀ (W : World) (n13 n12 n100 : Nat), Below w.heap.size w W → W.heap[n13]? = some (.cells #[.int .i64 1, .int .i64 (it.kind), .int .i64 (it.n), .string it.s, .string ⟨#[]⟩, .string ⟨#[]⟩, .int .i64 0, .int .i64 0, .int .i64 0, .string ⟨#[]⟩, .slice none 0 0, .int .i64 1, .int .i64 (it.kind), .int .i64 (it.n), .string it.s, .string ⟨#[]⟩, .string ⟨#[]⟩, .int .i64 0, .int .i64 0, .int .i64 0, .string ⟨#[]⟩, .slice none 0 0, .int .i64 7, .int .i64 0, .int .i64 0, .string ⟨#[]⟩, .string ⟨#[]⟩, .string ⟨#[]⟩, .int .i64 0, .int .i64 0, .int .i64 0, .string ⟨#[]⟩, .slice (some ⟨n12, 0, none⟩) 3 3] 39) → W.heap[n12]? = some (.cells #[.int .i64 8, .int .i64 0, .int .i64 0, .string ⟨#[]⟩, .string ⟨#[98, 111, 111, 108, 101, 97, 110]⟩, .string ⟨#[]⟩, .int .i64 0, .int .i64 0, .int .i64 0, .string ⟨#[]⟩, .slice (some ⟨n100, 0, none⟩) 1 1, .int .i64 1, .int .i64 (it.kind), .int .i64 (it.n), .string it.s, .string ⟨#[]⟩, .string ⟨#[]⟩, .int .i64 0, .int .i64 0, .int .i64 0, .string ⟨#[]⟩, .slice none 0 0, .int .i64 3, .int .i64 0, .int .i64 0, .string ⟨#[]⟩, .string ⟨#[]⟩, .string ⟨#[]⟩, .int .i64 0, .int .i64 0, .int .i64 0, .string ⟨#[]⟩, .slice none 0 0] 39) → W.heap[n100]? = some (.cells #[.int .i64 1, .int .i64 (it.kind), .int .i64 (it.n), .string it.s, .string ⟨#[]⟩, .string ⟨#[]⟩, .int .i64 0, .int .i64 0, .int .i64 0, .string ⟨#[]⟩, .slice none 0 0] 39) → Calls Tryd.prog 11 #[.agg #[.int .i64 6, .int .i64 0, .int .i64 0, .string ⟨#[]⟩, .string nmf, .string atf, .int .i64 0, .int .i64 0, .int .i64 0, .string ⟨#[]⟩, .slice (some ⟨n13, 0, none⟩) 3 3]] W fun e w' => e = .returned (.int .i64 0) ∧ Below W.heap.size W w') := fun W n13 n12 n100 hW f13 f12 f100 => by
    have h := check_is W.heap.size (srtX it nmf atf) _ W (srtX_V W W.heap.size n13 n12 n100 it nmf atf hits hnf haf f13 f12 f100 (Array.getElem?_eq_some_iff.1 f13).1 (Array.getElem?_eq_some_iff.1 f12).1 (Array.getElem?_eq_some_iff.1 f100).1) (Nat.le_refl _) (fun V hV => Utf8Tabs_below hT (hW.trans (hV.mono hW.size))) (srtX_nodes it nmf atf)
    rw [hcore] at h
    exact h
  have hmm := @run_makeMap Tryd.prog
  clear hT hcl hce hbe hK0 hK1 hK2 hn0 ha0 hdn hlit hclF hcore hcm hc3
  go_enter Tryd.func6, Tryd.ntmps6
  go_upto_region 2 with (first
    | (go_at_call 7; refine (CK.out _).mono ?_; rintro e w1 ⟨rfl, hv1, hb1⟩; have HB1 : Hid (Below w.heap.size w w1) := Below.trans (((Below.refl _ _).alloc (Nat.le_refl _) _).alloc (by simp) _) (hb1.mono (by simp; omega)); have HP1 := hidC ((hb1.block w.heap.size (by simp; omega)).trans (aOld (aNew rfl))); have HZ1 := hidC ((hb1.block (w.heap.size + 1) (by simp)).trans (aNew (by simp))); have hz1 := HB1.out.size; clear hb1 hv1)
    | (go_at_call 8; refine (CO.out _).mono ?_; rintro e w2 ⟨rfl, hv2, hb2⟩; have HB2 : Hid (Below w.heap.size w w2) := HB1.out.trans (hb2.mono hz1); have HP2 := hidC (blC hb2 (Array.getElem?_eq_some_iff.1 HP1.out).1 HP1.out); have HZ2 := hidC (blC hb2 (Array.getElem?_eq_some_iff.1 HZ1.out).1 HZ1.out); have hz2 := HB2.out.size; clear hb2 hv2))
  obtain ⟨W3, hW3⟩ : ∃ W, W = (w2.alloc (.map #[] 0)).alloc (.cells #[.map (some (w.heap.size + 1 + 1)), .map (some w1.heap.size), .map (some w2.heap.size), .int .i64 0, .int .i64 0] 49) := ⟨_, rfl⟩
  have HB3 : Hid (Below w.heap.size w W3) := by rw [hW3]; exact (HB2.out.alloc hz2 _).alloc (by simp; omega) _
  have HL3 : Hid (W3.heap[w2.heap.size + 1]? = some (.cells #[.map (some (w.heap.size + 1 + 1)), .map (some w1.heap.size), .map (some w2.heap.size), .int .i64 ((0 : Nat) : Int), .int .i64 0] 49)) := by rw [hW3]; exact aNew (by simp)
  have HS3 : Hid (SMap W3 w2.heap.size (fun _ => 0)) := by rw [hW3]; exact (SMap.made w2).keep (Below.heap_alloc _ _ _ (by simp))
  have HP3 := hidC (aOld (o := (.cells #[.map (some (w.heap.size + 1 + 1)), .map (some w1.heap.size), .map (some w2.heap.size), .int .i64 0, .int .i64 0] 49)) (aOld (o := .map #[] 0) HP2.out))
  have HZ3 := hidC (aOld (o := (.cells #[.map (some (w.heap.size + 1 + 1)), .map (some w1.heap.size), .map (some w2.heap.size), .int .i64 0, .int .i64 0] 49)) (aOld (o := .map #[] 0) HZ2.out))
  unfold Hid at HP3 HZ3
  rw [← hW3] at HP3 HZ3 ⊢
  have hw2z : w.heap.size < w2.heap.size := (Array.getElem?_eq_some_iff.1 HP2.out).1
  have hw2y : w.heap.size + 1 < w2.heap.size := (Array.getElem?_eq_some_iff.1 HZ2.out).1
  have hz3 := HB3.out.size
  have CE := hidC (CE0.out W3 (w2.heap.size + 1) w2.heap.size _ _ HB3.out HL3.out HS3.out (by omega) (by omega) (by omega) (phAt_of HP3) (Array.getElem?_eq_some_iff.1 HP3).1 (by omega) (by omega))
  have HZ4 := hidC HZ3
  have hly : w.heap.size + 1 < W3.heap.size := (Array.getElem?_eq_some_iff.1 HZ3).1
  clear hW3 HP3 HZ3 HP1 HP2 HZ1 HZ2 HB1 HB2 CK CO CE0
  go_upto_region 5 with (go_at_call 9; refine CE.out.mono ?_; (intro e w4 hF); (unfold FlT at hF); obtain ⟨n13, n12, n100, rfl, hl4, ho4, hb4, q13, f13, q12, f12, q100, f100⟩ := hF; have HL4 := hidC hl4; have HZ5 := hidC ((ho4 _ hly (by omega) (by omega)).trans HZ4.out); have HB4 : Hid (Below w.heap.size w w4) := HB3.out.trans hb4; have F13 := hidC f13; have F12 := hidC f12; have F100 := hidC f100; obtain ⟨_, _, _, _, m4, m5, m6⟩ := bk5 hl4; have hz4 := HB4.out.size; clear hl4 ho4 hb4 f13 f12 f100)
  obtain ⟨W5, hW5⟩ : ∃ W, W = w4.alloc (.cells #[.int .i64 6, .int .i64 0, .int .i64 0, .string ⟨#[]⟩, .string nmf, .string atf, .int .i64 0, .int .i64 0, .int .i64 0, .string ⟨#[]⟩, .slice (some ⟨n13, 0, none⟩) 3 3] 39) := ⟨_, rfl⟩
  have HB5 : Hid (Below w.heap.size w W5) := by rw [hW5]; exact HB4.out.alloc hz4 _
  have HL5 : Hid (W5.heap[w2.heap.size + 1]? = some (.cells #[.map (some (w.heap.size + 1 + 1)), .map (some w1.heap.size), .map (some w2.heap.size), .int .i64 ((0 + 8 : Nat) : Int), .int .i64 0] 49)) := by rw [hW5]; exact aOld HL4.out
  have HZ6 : Hid (W5.heap[w.heap.size + 1]? = some (.cells #[.int .i64 0, .int .i64 0, .int .i64 0, .string ⟨#[]⟩, .string ⟨#[]⟩, .string ⟨#[]⟩, .int .i64 0, .int .i64 0, .int .i64 0, .string ⟨#[]⟩, .slice none 0 0] 39)) := by rw [hW5]; exact aOld HZ5.out
  have HX5 : Hid (W5.heap[w4.heap.size]? = some (.cells #[.int .i64 6, .int .i64 0, .int .i64 0, .string ⟨#[]⟩, .string nmf, .string atf, .int .i64 0, .int .i64 0, .int .i64 0, .string ⟨#[]⟩, .slice (some ⟨n13, 0, none⟩) 3 3] 39)) := by rw [hW5]; exact aNew rfl
  have G13 := hidC (aOld (o := .cells #[.int .i64 6, .int .i64 0, .int .i64 0, .string ⟨#[]⟩, .string nmf, .string atf, .int .i64 0, .int .i64 0, .int .i64 0, .string ⟨#[]⟩, .slice (some ⟨n13, 0, none⟩) 3 3] 39) F13.out)
  have G12 := hidC (aOld (o := .cells #[.int .i64 6, .int .i64 0, .int .i64 0, .string ⟨#[]⟩, .string nmf, .string atf, .int .i64 0, .int .i64 0, .int .i64 0, .string ⟨#[]⟩, .slice (some ⟨n13, 0, none⟩) 3 3] 39) F12.out)
  have G100 := hidC (aOld (o := .cells #[.int .i64 6, .int .i64 0, .int .i64 0, .string ⟨#[]⟩, .string nmf, .string atf, .int .i64 0, .int .i64 0, .int .i64 0, .string ⟨#[]⟩, .slice (some ⟨n13, 0, none⟩) 3 3] 39) F100.out)
  unfold Hid at G13 G12 G100
  rw [← hW5] at G13 G12 G100 ⊢
  have CC5 := hidC (CC.out W5 n13 n12 n100 HB5.out G13 G12 G100)
  have CT : Hid (Calls Tryd.prog 10 #[.pointer (some ⟨w2.heap.size + 1, 0, none⟩)] W5 fun e w' => e = .returned (.bool false) ∧ w' = W5) := tooMany_is _ _ _ _ (0 + 8) 0 _ W5 HL5.out (by decide)
  have hx5 : w4.heap.size < W5.heap.size := (Array.getElem?_eq_some_iff.1 HX5.out).1
  have hz5 := HB5.out.size
  obtain ⟨x0, x1, x2, x3, x4, x5, x6, x7, x8, x9, x10, _, _⟩ := bk11 HX5.out
  clear hW5 m4 m5 m6 HL4 HZ5 HB4 HZ4 HB3 HL3 CE G13 G12 G100 F13 F12 F100 CC
  go_upto_region 10 with (first
    | (go_at_call 10; refine CT.out.mono ?_; rintro e w6 ⟨rfl, hw6⟩; obtain rfl := hw6.symm; clear CT)
    | (go_at_call 11; refine CC5.out.mono ?_; rintro e w7 ⟨rfl, hb7⟩; have HX7 := hidC (blC hb7 hx5 HX5.out); have HZ7 := hidC (blC hb7 (Array.getElem?_eq_some_iff.1 HZ6.out).1 HZ6.out); have HB7 : Hid (Below w.heap.size w w7) := HB5.out.trans (hb7.mono hz5); clear hb7 CC5))
  clear x0 x1 x2 x3 x4 x5 x6 x7 x8 x9 x10
  obtain ⟨x0, x1, x2, x3, x4, x5, x6, x7, x8, x9, x10, _, _⟩ := bk11 HX7.out
  obtain ⟨z0, z1, z2, z3, z4, z5, z6, z7, z8, z9, z10, zf, _⟩ := bk11 HZ7.out
  go_wp2
  obtain ⟨W8, hW8⟩ : ∃ W, W = (((((((((((w7).setCell ⟨w.heap.size + 1, 0, none⟩ (.int .i64 6)).setCell ⟨w.heap.size + 1, 1, none⟩ (.int .i64 0)).setCell ⟨w.heap.size + 1, 2, none⟩ (.int .i64 0)).setCell ⟨w.heap.size + 1, 3, none⟩ (.string ⟨#[]⟩)).setCell ⟨w.heap.size + 1, 4, none⟩ (.string nmf)).setCell ⟨w.heap.size + 1, 5, none⟩ (.string atf)).setCell ⟨w.heap.size + 1, 6, none⟩ (.int .i64 0)).setCell ⟨w.heap.size + 1, 7, none⟩ (.int .i64 0)).setCell ⟨w.heap.size + 1, 8, none⟩ (.int .i64 0)).setCell ⟨w.heap.size + 1, 9, none⟩ (.string ⟨#[]⟩)).setCell ⟨w.heap.size + 1, 10, none⟩ (.slice (some ⟨n13, 0, none⟩) 3 3) := ⟨_, rfl⟩
  have hW9 : W8 = putL w7 (w.heap.size + 1) 0 [.int .i64 6, .int .i64 0, .int .i64 0, .string ⟨#[]⟩, .string nmf, .string atf, .int .i64 0, .int .i64 0, .int .i64 0, .string ⟨#[]⟩, .slice (some ⟨n13, 0, none⟩) 3 3] := hW8
  have HZ8 : Hid (W8.heap[w.heap.size + 1]? = some (.cells #[.int .i64 6, .int .i64 0, .int .i64 0, .string ⟨#[]⟩, .string nmf, .string atf, .int .i64 0, .int .i64 0, .int .i64 0, .string ⟨#[]⟩, .slice (some ⟨n13, 0, none⟩) 3 3] 39)) := by rw [hW9]; exact putL_same HZ7.out _ rfl
  have HB8 : Hid (Below w.heap.size w W8) := by rw [hW9]; exact putL_below (by omega) _ _ _ HB7.out
  rw [← hW8]
  clear hW8 hW9
  obtain ⟨y0, y1, y2, y3, y4, y5, y6, y7, y8, y9, y10, _, _⟩ := bk11 HZ8.out
  exact bodyPost_ret (v := .tuple #[.agg #[.int .i64 6, .int .i64 0, .int .i64 0, .string ⟨#[]⟩, .string nmf, .string atf, .int .i64 0, .int .i64 0, .int .i64 0, .string ⟨#[]⟩, .slice (some ⟨n13, 0, none⟩) 3 3], .int .i64 0]) (by simp [results, Tryd.results6, go_sem, y0, y1, y2, y3, y4, y5, y6, y7, y8, y9, y10]) rfl ⟨_, rfl, HB8.out⟩
end Go.Proofs.YtkhlfdnlpimojaaDoor
