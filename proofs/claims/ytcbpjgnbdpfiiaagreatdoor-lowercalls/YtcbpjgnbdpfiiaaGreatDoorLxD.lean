/-
  CONTRACT of package core: called, of a name that is in the table.
-/
import Derived.Test.YtcbpjgnbdpfiiaaGreatDoorLxC
import Derived.Deep.RegionHeld3
set_option linter.unusedVariables false
namespace Go.Proofs.YtcbpjgnbdpfiiaaGreatDoor
set_option maxRecDepth 100000
open Go.RowKit Go.WideShapes

theorem field_fn (y : ByteArray) (a : Int) (W : World) : Sem.run Tryz.prog (Instr.field 98 (.agg #[.string y, .int .i64 a]) 0) W = .ok (.string y) W := by
  first
    | rfl
    | simp [Instr.field, run_underlying Tryz.underlying98, go_sem]
/-- a state of a lowering, whatever parts were made -/
def XK (w0 : World) (lb tb ob sb : Nat) (N : ByteArray → Nat) (W : World) : Prop := ∃ q, XS w0 lb tb ob sb N q W
theorem LOwn.lower {T : TypeId} {sz : Nat} {E : Nat → World → (Nat → Prop) → List Value → Prop} (hE : ∀ i, Keeps (E i)) {w : World} {lo lo' : Nat} {v : Value} {n : Nat} (h : LOwn T sz E w lo v n) (hl : lo' ≤ lo) : LOwn T sz E w lo' v n := by
  obtain ⟨L, h1, h2⟩ := h
  refine ⟨L, ⟨h1.1, ?_⟩, fun i hi => ⟨(h2 i hi).1, hE i _ _ _ _ _ (fun b q => ⟨⟨by omega, q.1.2⟩, q.2⟩) (fun _ _ => rfl) (h2 i hi).2⟩⟩
  rcases h1.2 with q | ⟨g, cap, cur, q1, q2, q3⟩
  · exact .inl q
  · exact .inr ⟨g, cap, cur, q1, by omega, q3⟩
theorem XS.drew {w0 W : World} {lb tb ob sb : Nat} {N : ByteArray → Nat} {p : Nat} (h : XS w0 lb tb ob sb N p W) : XS w0 lb tb ob sb N p W.drew := ⟨h.l, h.s, h.z, h.os, h.tape, h.output, h.k⟩
theorem XK.drew {w0 W : World} {lb tb ob sb : Nat} {N : ByteArray → Nat} (h : XK w0 lb tb ob sb N W) : XK w0 lb tb ob sb N W.drew := by
  obtain ⟨q, h⟩ := h
  exact ⟨q, h.drew⟩
theorem XK.setC {w0 W : World} {lb tb ob sb r : Nat} {N : ByteArray → Nat} (h : XK w0 lb tb ob sb N W) (hr : w0.heap.size ≤ r) (hl : lb < w0.heap.size) (hs : sb < w0.heap.size) (k : Nat) (v : Value) : XK w0 lb tb ob sb N (W.setCell ⟨r, k, none⟩ v) := by
  obtain ⟨q, h⟩ := h
  have e : ∀ b, b < w0.heap.size → (W.setCell ⟨r, k, none⟩ v).heap[b]? = W.heap[b]? := fun b hb => Below.heap_setCell _ _ _ _ (by simp; omega)
  exact ⟨q, (e lb hl).trans h.l, h.s.keep (e sb hs), by simpa using h.z, h.os, h.tape, h.output, fun b h0 h1 h2 => (e b h0).trans (h.k b h0 h1 h2)⟩
theorem XS.put {w0 W : World} {lb tb ob sb r : Nat} {N : ByteArray → Nat} {p : Nat} (h : XS w0 lb tb ob sb N p W) (hr : w0.heap.size ≤ r) (hl : lb < w0.heap.size) (hs : sb < w0.heap.size) (vs : List Value) : XS w0 lb tb ob sb N p (putL W r 0 vs) := by
  have hb := putL_below (B := W.heap.size.min r) (b := r) (w0 := W) (Nat.min_le_right _ _) vs W 0 (Below.refl _ _)
  have hz := h.z
  have hm : w0.heap.size ≤ W.heap.size.min r := Nat.le_min.2 ⟨hz, hr⟩
  exact ⟨(hb.block lb (by omega)).trans h.l, h.s.keep (hb.block sb (by omega)), Nat.le_trans hz hb.size, hb.os.trans h.os, hb.tape.trans h.tape, hb.output.trans h.output, fun b h0 h1 h2 => (hb.block b (by omega)).trans (h.k b h0 h1 h2)⟩
set_option maxHeartbeats 6400000 in
theorem called_plain {n : Nat} {A : Nat → Ph} {X : Nat → Ex} {P : Nat → Nat} {N : ByteArray → Nat} {nm y : ByteArray} {a : Int} (hn : n ≤ 1000) (hP : ∀ k, k ≤ n → P k ≤ 699) (hr : ∀ k, k < n → RunE (A k) N (P k) (P (k + 1)) (X k)) (hx : nm.size ≤ maxLen) (hy : y.size ≤ 4000) (hV : callsV nm = some (fV y a)) (n0 : (nm.toList == [116, 114, 117, 101]) = false) (n1 : (nm.toList == [102, 97, 108, 115, 101]) = false) (n2 : (nm.toList == [112, 111, 115, 105, 116, 105, 111, 110]) = false) (n3 : (nm.toList == [108, 97, 115, 116]) = false) (it : It) (cn ax tk : Int) (tn : ByteArray) (w : World) (lb tb ob sb : Nat) (S : Nat → Prop) (pb po : Nat) (u : List Value) (hB : XB w lb tb ob sb) (hX : XS w lb tb ob sb N (P 0) w) (hp : PhIn w lb sb pb po (phN 8 it nm cn ax tk tn n A) S u) :
    Calls Tryz.prog 101 #[.pointer (some ⟨lb, 0, none⟩), .pointer (some ⟨pb, po, none⟩)] w fun e w' => ∃ v, (exN 8 ⟨0, 0, ⟨#[]⟩⟩ y ⟨#[]⟩ 0 n X).W w' (fun b => w.heap.size ≤ b ∧ b < w'.heap.size) v ∧ e = .returned (.agg v.toArray) ∧ XS w lb tb ob sb N (P n + 1) w' := by
  obtain ⟨aa, ac, a10, c10, hu, hac, _, hcm, _, hel, _⟩ := hp.v
  have HEL : Hid (0 < n → ∃ g o, aa = some ⟨g, o, none⟩ ∧ ∀ k, k < n → ∃ u, PhIn w lb sb g (o + k * 11) (A k) S u) := fun h => by
    obtain ⟨g, o, q1, q2, q3⟩ := hel h
    exact ⟨g, o, q1, fun k hk => by obtain ⟨u', r1, r2⟩ := q3 k hk; exact ⟨u', r1, r2, q2, hp.h⟩⟩
  have HA : Hid (∀ W, XK w lb tb ob sb N W → W.cell? ⟨lb, 0, none⟩ = some (.map (some tb)) ∧ W.cell? ⟨pb, po + 4, none⟩ = some (.string nm) ∧ W.cell? ⟨pb, po + 9, none⟩ = some (.slice aa n ac) ∧ (Instr.lookup 73 (.map (some tb)) (.string nm) false).run Tryz.prog W = .ok (.agg #[.string y, .int .i64 a]) W) := fun W hq => by
    obtain ⟨q, hW⟩ := hq
    have e := phAt_c (hu ▸ (hp.at hW).c)
    have hk := (hB.at hW).t.look hx Tryz.underlying73 (zeroF W)
    rw [hV] at hk
    exact ⟨(bk5 hW.l).1, e.c4, e.c9, hk.1⟩
  have CE : Hid (∀ W, XS w lb tb ob sb N (P 0) W → Calls Tryz.prog 100 #[.pointer (some ⟨lb, 0, none⟩), .slice aa n ac] W fun e w' => ∃ v, e = .returned v ∧ LOwn 43 11 (ExE X) w' W.heap.size v n ∧ XS w lb tb ob sb N (P n) w' ∧ (∀ b, b < W.heap.size → b ≠ lb → b ≠ sb → w'.heap[b]? = W.heap[b]?)) := fun W hW =>
    (exprs_is hn (fun k hk => by have := hP k hk; omega) hr W lb tb ob sb S aa ac hac hcm (fun h => by obtain ⟨g, o, q1, q2⟩ := HEL.out h; exact ⟨g, o, q1, fun k hk => by obtain ⟨u', r⟩ := q2 k hk; exact ⟨u', r.at hW⟩⟩) (hB.at hW) hW.here).mono fun e w' ⟨v, k1, k2, k3⟩ => ⟨v, k1, k2, hW.trans k3, k3.k⟩
  have CC : Hid (∀ W (a2 : Option Addr) (c2 : Nat), XS w lb tb ob sb N (P n) W → Calls Tryz.prog 88 #[.pointer (some ⟨lb, 0, none⟩), .string y, .slice a2 n c2] W fun e w' => e = .returned (.agg #[.int .i64 8, .int .i64 0, .int .i64 0, .string ⟨#[]⟩, .string y, .string ⟨#[]⟩, .int .i64 0, .int .i64 0, .int .i64 0, .string ⟨#[]⟩, .slice a2 n c2]) ∧ XS w lb tb ob sb N (P n + 1) w' ∧ (∀ b, b < W.heap.size → b ≠ lb → w'.heap[b]? = W.heap[b]?) ∧ W.heap.size ≤ w'.heap.size) := fun W a2 c2 hW =>
    (call_is lb _ _ _ (P n) y a2 n c2 W hW.l (by have := hP n (Nat.le_refl _); omega) hy).mono fun e w' ⟨k1, k2⟩ => ⟨k1, hW.trans (hW.here.ofKp hB.ls k2), k2.2.1, k2.2.2.size⟩
  have EF := field_fn y a
  have HX := HidOf hX
  have hll := hB.ll
  have hsl := hB.sl
  have e0 := phAt_c (hu ▸ hp.c)
  have e4 := e0.c4
  have hpw := (hp.h pb hp.s).1
  clear hr hel e0 hX
  go_enter Tryz.func101, Tryz.ntmps101
  go_upto_region 10 with fail
  obtain ⟨W1, hW1⟩ : ∃ W, W = w.alloc (.cells #[.int .i64 0, .int .i64 0, .int .i64 0, .string ⟨#[]⟩, .string ⟨#[]⟩, .string ⟨#[]⟩, .int .i64 0, .int .i64 0, .int .i64 0, .string ⟨#[]⟩, .slice none 0 0] 43) := ⟨_, rfl⟩
  have HS1 : Hid (XS w lb tb ob sb N (P 0) W1) := by rw [hW1]; exact HX.out.alloc _
  have HR1 : Hid (W1.heap[w.heap.size]? = some (.cells #[.int .i64 0, .int .i64 0, .int .i64 0, .string ⟨#[]⟩, .string ⟨#[]⟩, .string ⟨#[]⟩, .int .i64 0, .int .i64 0, .int .i64 0, .string ⟨#[]⟩, .slice none 0 0] 43)) := by rw [hW1]; exact heap_alloc_new _ _
  have hz1 : w.heap.size < W1.heap.size := (Array.getElem?_eq_some_iff.1 HR1.out).1
  rw [← hW1]
  clear hW1 e4
  have HK1 : Hid (XK w lb tb ob sb N W1) := ⟨_, HS1.out⟩
  obtain ⟨h0, h1, h2, h3⟩ := HA.out W1 HK1.out
  go_region_held3 (fun W => W.cell? ⟨lb, 0, none⟩ = some (.map (some tb)) ∧ W.cell? ⟨pb, po + 4, none⟩ = some (.string nm) ∧ W.cell? ⟨pb, po + 9, none⟩ = some (.slice aa n ac) ∧ (Instr.lookup 73 (.map (some tb)) (.string nm) false).run Tryz.prog W = .ok (.agg #[.string y, .int .i64 a]) W)
    ((refine HA.out _ ?_; repeat (first | with_reducible exact Hid.out (by with_reducible assumption) | with_reducible refine XK.drew ?_ | with_reducible refine XK.setC ?_ (Nat.le_refl _) hll hsl _ _)))
    (first
      | (go_at_call 100; refine (CE.out _ ?_).mono ?_; (focus (repeat (first | with_reducible exact Hid.out (by with_reducible assumption) | with_reducible refine XS.drew ?_))); rintro e w2 ⟨v, rfl, hl2, hs2, hk2⟩; obtain ⟨a2, c2, rfl⟩ := hl2.form; have HS2 : Hid (XS w lb tb ob sb N (P n) w2) := hs2; have HK2 : Hid (XK w lb tb ob sb N w2) := ⟨_, hs2⟩; have HL2 : Hid (LOwn 43 11 (ExE X) w2 (w.heap.size + 1) (.slice a2 n c2) n) := LOwn.lower (ExE.keeps X) hl2 (by have := hz1; first | omega | (simp; omega)); have HR2 : Hid (w2.heap[w.heap.size]? = some (.cells #[.int .i64 0, .int .i64 0, .int .i64 0, .string ⟨#[]⟩, .string ⟨#[]⟩, .string ⟨#[]⟩, .int .i64 0, .int .i64 0, .int .i64 0, .string ⟨#[]⟩, .slice none 0 0] 43)) := (hk2 w.heap.size hz1 (by omega) (by omega)).trans HR1.out; have hw2 : w.heap.size < w2.heap.size := (Array.getElem?_eq_some_iff.1 HR2.out).1; clear hl2 hs2 hk2 CE)
      | (go_at_call 88; refine (CC.out _ a2 c2 ?_).mono ?_; (focus (repeat (first | with_reducible exact Hid.out (by with_reducible assumption) | with_reducible refine XS.drew ?_))); rintro e W3 ⟨rfl, hs3, hk3, hz3⟩; have HS3 : Hid (XS w lb tb ob sb N (P n + 1) W3) := hs3; have HK3 : Hid (XK w lb tb ob sb N W3) := ⟨_, hs3⟩; have HL3 : Hid (LOwn 43 11 (ExE X) W3 (w.heap.size + 1) (.slice a2 n c2) n) := HL2.out.step (ExE.keeps X) hz3 (fun b h1 h2 => hk3 b h2 (by omega)); have HR3 : Hid (W3.heap[w.heap.size]? = some (.cells #[.int .i64 0, .int .i64 0, .int .i64 0, .string ⟨#[]⟩, .string ⟨#[]⟩, .string ⟨#[]⟩, .int .i64 0, .int .i64 0, .int .i64 0, .string ⟨#[]⟩, .slice none 0 0] 43)) := (hk3 w.heap.size hw2 (by omega)).trans HR2.out; obtain ⟨z0, z1, z2, z3, z4, z5, z6, z7, z8, z9, z10, z11, z12⟩ := bk11 HR3.out; clear hs3 hk3 hz3 CC))
  all_goals
    obtain ⟨W4, hW4⟩ : ∃ W, W = (((((((((((W3).setCell ⟨w.heap.size, 0, none⟩ (.int .i64 8)).setCell ⟨w.heap.size, 1, none⟩ (.int .i64 0)).setCell ⟨w.heap.size, 2, none⟩ (.int .i64 0)).setCell ⟨w.heap.size, 3, none⟩ (.string ⟨#[]⟩)).setCell ⟨w.heap.size, 4, none⟩ (.string y)).setCell ⟨w.heap.size, 5, none⟩ (.string ⟨#[]⟩)).setCell ⟨w.heap.size, 6, none⟩ (.int .i64 0)).setCell ⟨w.heap.size, 7, none⟩ (.int .i64 0)).setCell ⟨w.heap.size, 8, none⟩ (.int .i64 0)).setCell ⟨w.heap.size, 9, none⟩ (.string ⟨#[]⟩)).setCell ⟨w.heap.size, 10, none⟩ (.slice a2 n c2) := ⟨_, rfl⟩
    have hW5 : W4 = putL W3 w.heap.size 0 [.int .i64 8, .int .i64 0, .int .i64 0, .string ⟨#[]⟩, .string y, .string ⟨#[]⟩, .int .i64 0, .int .i64 0, .int .i64 0, .string ⟨#[]⟩, .slice a2 n c2] := hW4
    have HZ4 : Hid (W4.heap[w.heap.size]? = some (.cells #[.int .i64 8, .int .i64 0, .int .i64 0, .string ⟨#[]⟩, .string y, .string ⟨#[]⟩, .int .i64 0, .int .i64 0, .int .i64 0, .string ⟨#[]⟩, .slice a2 n c2] 43)) := by rw [hW5]; exact putL_same HR3.out _ rfl
    have HS4 : Hid (XS w lb tb ob sb N (P n + 1) W4) := by rw [hW5]; exact HS3.out.put (Nat.le_refl _) hll hsl _
    have HL4 : Hid (LOwn 43 11 (ExE X) W4 (w.heap.size + 1) (.slice a2 n c2) n) := by rw [hW5]; exact HL3.out.step (ExE.keeps X) (putL_below (B := 0) (Nat.zero_le _) _ _ _ (Below.refl _ _)).size (fun b h1 h2 => putL_other (by omega) _ _ _)
    rw [← hW4]
    clear hW4 hW5
    go_wp2
    obtain ⟨y0, y1, y2, y3, y4, y5, y6, y7, y8, y9, y10, _, _⟩ := bk11 HZ4.out
    exact bodyPost_ret (v := .agg #[.int .i64 8, .int .i64 0, .int .i64 0, .string ⟨#[]⟩, .string y, .string ⟨#[]⟩, .int .i64 0, .int .i64 0, .int .i64 0, .string ⟨#[]⟩, .slice a2 n c2]) (by simp [results, Tryz.results101, go_sem, y0, y1, y2, y3, y4, y5, y6, y7, y8, y9, y10]) rfl ⟨[.int .i64 8, .int .i64 0, .int .i64 0, .string ⟨#[]⟩, .string y, .string ⟨#[]⟩, .int .i64 0, .int .i64 0, .int .i64 0, .string ⟨#[]⟩, .slice a2 n c2], (LOwn.lower (ExE.keeps X) HL4.out (Nat.le_succ _)).exs (by decide) (Nat.le_trans hy (by decide)) (by decide), rfl, HS4.out⟩
end Go.Proofs.YtcbpjgnbdpfiiaaGreatDoor
