import Derived.Test.YtbnlekhjgkojlaaGreatDoorPtLst
set_option linter.unusedVariables false
namespace Go.Proofs.YtbnlekhjgkojlaaGreatDoor
set_option maxRecDepth 100000
open Go.RowKit
def putC (w : World) (b : Nat) : Nat → List Value → World
 | _, [] => w
 | k, v :: vs => putC (w.setCell ⟨b, k, none⟩ v) b (k + 1) vs
theorem putC_other {b c : Nat} (hn : c ≠ b) : ∀ (vs : List Value) (w : World) (k : Nat), (putC w b k vs).heap[c]? = w.heap[c]?
 | [], _, _ => rfl
 | v :: vs, w, k => (putC_other hn vs _ _).trans (Below.heap_setCell _ _ _ _ hn)
theorem putC_size {b : Nat} : ∀ (vs : List Value) (w : World) (k : Nat), (putC w b k vs).heap.size = w.heap.size
 | [], _, _ => rfl
 | v :: vs, w, k => (putC_size vs _ _).trans (by simp)
theorem putC_grow {pb b : Nat} {w0 : World} (hb : w0.heap.size ≤ b) : ∀ (vs : List Value) (w : World) (k : Nat), GrowA pb w0 w → GrowA pb w0 (putC w b k vs)
 | [], _, _, h => h
 | v :: vs, w, k, h => putC_grow hb vs _ _ (h.setR hb k v)
theorem PaS.put {w : World} {pb b c x : Nat} {T : List Tok} {st : Pst} (h : PaS w pb b c T st) (hp : x ≠ pb) (hb : x ≠ b) (k : Nat) (vs : List Value) : PaS (putC w x k vs) pb b c T st := h.same (Nat.le_of_eq (putC_size _ _ _).symm) (putC_other (Ne.symm hp) _ _ _) (putC_other (Ne.symm hb) _ _ _)
theorem Tre.put {w : World} {lo x : Nat} {p : Ph} {v : List Value} (h : Tre w lo p v) (hx : x < lo) (k : Nat) (vs : List Value) : Tre (putC w x k vs) lo p v := Ph.V.keep (fun b q => ⟨q.1, by rw [putC_size]; exact q.2⟩) (fun b q => putC_other (by omega) _ _ _) h
def ClB (w : World) (r : Nat) (v : Array Value) : Prop := w.heap[r]? = some (.cells v 74)
theorem ClB.lt {w : World} {r : Nat} {v : Array Value} (h : ClB w r v) : r < w.heap.size := (Array.getElem?_eq_some_iff.1 h).1
theorem ClB.new (w : World) (v : Array Value) : ClB (w.alloc (.cells v 74)) w.heap.size v := heap_alloc_new _ _
theorem ClB.grow {w w' : World} {pb r : Nat} {v : Array Value} (h : ClB w r v) (hg : GrowA pb w w') (hr : r ≠ pb) : ClB w' r v := (hg.2.2.2.2 r h.lt hr).trans h
theorem ClB.below {w w' : World} {r : Nat} {v : Array Value} (h : ClB w r v) (hb : Below w.heap.size w w') : ClB w' r v := (hb.block r h.lt).trans h
theorem ClB.allocI {w : World} {r : Nat} {v : Array Value} (h : ClB w r v) (o : Obj) : ClB (w.alloc o) r v := h.below ((Below.refl _ _).alloc (Nat.le_refl _) o)
theorem ClB.put {w : World} {r x : Nat} {v : Array Value} (h : ClB w r v) (hn : r ≠ x) (k : Nat) (vs : List Value) : ClB (putC w x k vs) r v := (putC_other hn _ _ _).trans h
theorem ClB.cells {w : World} {r : Nat} {x0 x1 x2 x3 x4 x5 x6 x7 x8 x9 x10 x11 x12 x13 x14 : Value} (h : ClB w r #[x0, x1, x2, x3, x4, x5, x6, x7, x8, x9, x10, x11, x12, x13, x14]) : (w.cell? ⟨r, 0, none⟩ = some x0 ∧ w.cell? ⟨r, 1, none⟩ = some x1 ∧ w.cell? ⟨r, 2, none⟩ = some x2 ∧ w.cell? ⟨r, 3, none⟩ = some x3 ∧ w.cell? ⟨r, 4, none⟩ = some x4 ∧ w.cell? ⟨r, 5, none⟩ = some x5 ∧ w.cell? ⟨r, 6, none⟩ = some x6 ∧ w.cell? ⟨r, 7, none⟩ = some x7 ∧ w.cell? ⟨r, 8, none⟩ = some x8 ∧ w.cell? ⟨r, 9, none⟩ = some x9 ∧ w.cell? ⟨r, 10, none⟩ = some x10 ∧ w.cell? ⟨r, 11, none⟩ = some x11 ∧ w.cell? ⟨r, 12, none⟩ = some x12 ∧ w.cell? ⟨r, 13, none⟩ = some x13 ∧ w.cell? ⟨r, 14, none⟩ = some x14) ∧ w.frozen? ⟨r, 0, none⟩ = false ∧ w.frozen? ⟨r, 1, none⟩ = false ∧ w.frozen? ⟨r, 2, none⟩ = false ∧ w.frozen? ⟨r, 3, none⟩ = false ∧ w.frozen? ⟨r, 4, none⟩ = false ∧ w.frozen? ⟨r, 5, none⟩ = false ∧ w.frozen? ⟨r, 6, none⟩ = false ∧ w.frozen? ⟨r, 7, none⟩ = false ∧ w.frozen? ⟨r, 8, none⟩ = false ∧ w.frozen? ⟨r, 9, none⟩ = false ∧ w.frozen? ⟨r, 10, none⟩ = false ∧ w.frozen? ⟨r, 11, none⟩ = false ∧ w.frozen? ⟨r, 12, none⟩ = false ∧ w.frozen? ⟨r, 13, none⟩ = false ∧ w.frozen? ⟨r, 14, none⟩ = false := by
 unfold ClB at h
 refine ⟨⟨?_, ?_, ?_, ?_, ?_, ?_, ?_, ?_, ?_, ?_, ?_, ?_, ?_, ?_, ?_⟩, ?_, ?_, ?_, ?_, ?_, ?_, ?_, ?_, ?_, ?_, ?_, ?_, ?_, ?_, ?_⟩ <;> simp [World.cell?, World.frozen?, h]
theorem ClB.expr {w : World} {r : Nat} {x0 x1 x2 x3 x4 x5 x6 x7 x8 x9 x10 x11 x12 x13 x14 v0 v1 v2 v3 v4 v5 v6 v7 v8 v9 v10 : Value} (h : ClB w r #[x0, x1, x2, x3, x4, x5, x6, x7, x8, x9, x10, x11, x12, x13, x14]) : ClB (putC w r 4 [v0, v1, v2, v3, v4, v5, v6, v7, v8, v9, v10]) r #[x0, x1, x2, x3, v0, v1, v2, v3, v4, v5, v6, v7, v8, v9, v10] := by
 unfold ClB at h ⊢
 simp [putC, World.setCell, Array.getElem?_modify, h]
def RunC (pb b c : Nat) (T : List Tok) (f : Nat) (st st' : Pst) (k : Int) (nm at' : ByteArray) (dn : Bool) (p : Ph) : Prop := ∀ (w : World), PaS w pb b c T st → RTab w pb → Calls Tryz.prog f #[.pointer (some ⟨pb, 0, none⟩)] w fun e w' => ∃ u, Tre w' w.heap.size p u ∧ e = .returned (.agg ([.int .i64 k, .string nm, .string at', .bool dn] ++ u : List Value).toArray) ∧ PaS w' pb b c T st' ∧ GrowA pb w w'
theorem RunC.use {pb b c : Nat} {T : List Tok} {f : Nat} {st st' : Pst} {k : Int} {nm at' : ByteArray} {dn : Bool} {p : Ph} (h : RunC pb b c T f st st' k nm at' dn p) {w W : World} (ht : RTab w pb) (hp : PaS W pb b c T st) (hg : GrowA pb w W) :
 Calls Tryz.prog f #[.pointer (some ⟨pb, 0, none⟩)] W fun e w' => ∃ (lo : Nat) (k0 k1 k2 k5 k6 k7 : Int) (s3 s4 s8 : ByteArray) (a9 a10 : Option Addr) (l9 c9 l10 c10 : Nat), (w.heap.size ≤ lo ∧ pb < lo ∧ lo ≤ w'.heap.size ∧ lo = W.heap.size) ∧ Tre w' lo p [.int .i64 k0, .int .i64 k1, .int .i64 k2, .string s3, .string s4, .int .i64 k5, .int .i64 k6, .int .i64 k7, .string s8, .slice a9 l9 c9, .slice a10 l10 c10] ∧ e = .returned (.agg #[.int .i64 k, .string nm, .string at', .bool dn, .int .i64 k0, .int .i64 k1, .int .i64 k2, .string s3, .string s4, .int .i64 k5, .int .i64 k6, .int .i64 k7, .string s8, .slice a9 l9 c9, .slice a10 l10 c10]) ∧ PaS w' pb b c T st' ∧ GrowA pb W w' :=
 (h W hp (ht.grow hg)).mono fun e w' ⟨v, h1, h2, h3, h4⟩ => by
  obtain ⟨k0, k1, k2, k5, k6, k7, s3, s4, s8, a9, a10, l9, c9, l10, c10, rfl⟩ := h1.form
  exact ⟨W.heap.size, k0, k1, k2, k5, k6, k7, s3, s4, s8, a9, a10, l9, c9, l10, c10, ⟨hg.1, hp.pl, h4.1, rfl⟩, h1, h2, h3, h4⟩
set_option maxHeartbeats 6400000 in
theorem forIn_plain {pb b c : Nat} {T : List Tok} {st s2 s3 : Pst} {us : ByteArray} {un : Int} {p : Ph} (hT : T.length ≤ 200) (hat : st.at' ≤ 300) (hu : seeM T st 0 = ⟨4, us, un⟩) (hs : us.size ≤ 4000) (ha1 : st.at' + 1 ≤ 300) (n1 : eqT (seeM T { st with at' := st.at' + 1 } 0) ⟨1, ⟨#[97, 116]⟩, 0⟩ = false) (hw : wantM T { st with at' := st.at' + 1 } ⟨1, ⟨#[105, 110]⟩, 0⟩ = s2) (hlu : RunT pb b c T 68 #[.pointer (some ⟨pb, 0, none⟩)] s2 s3 p) : RunC pb b c T 111 st s3 1 us ⟨#[]⟩ false p := by
 intro w h htb
 have HTB : Hid (RTab w pb) := htb
 have HLU : Hid (RunT pb b c T 68 #[.pointer (some ⟨pb, 0, none⟩)] s2 s3 p) := hlu
 clear htb hlu
 have hpl := h.pl
 have hbl := h.bl
 go_enter Tryz.func111, Tryz.ntmps111
 go_upto_region 1 with fail
 obtain ⟨W1, hW1⟩ : ∃ W, W = w.alloc (.cells #[.int .i64 0, .string ⟨#[]⟩, .string ⟨#[]⟩, .bool false, .int .i64 0, .int .i64 0, .int .i64 0, .string ⟨#[]⟩, .string ⟨#[]⟩, .int .i64 0, .int .i64 0, .int .i64 0, .string ⟨#[]⟩, .slice none 0 0, .slice none 0 0] 74) := ⟨_, rfl⟩
 have HG1 : Hid (GrowA pb w W1) := by rw [hW1]; exact (GrowA.refl _ _).alloc _
 have HP1 : Hid (PaS W1 pb b c T st) := by rw [hW1]; exact h.allocI _
 have HR1 : Hid (ClB W1 w.heap.size #[.int .i64 0, .string ⟨#[]⟩, .string ⟨#[]⟩, .bool false, .int .i64 0, .int .i64 0, .int .i64 0, .string ⟨#[]⟩, .string ⟨#[]⟩, .int .i64 0, .int .i64 0, .int .i64 0, .string ⟨#[]⟩, .slice none 0 0, .slice none 0 0]) := by rw [hW1]; exact ClB.new w _
 rw [← hW1]
 obtain ⟨r, hr⟩ : ∃ r, r = w.heap.size := ⟨_, rfl⟩
 have HRW : Hid (w.heap.size ≤ r) := Nat.le_of_eq hr.symm
 have hrp : r ≠ pb := by omega
 have hrb : r ≠ b := by omega
 rw [← hr] at HR1 ⊢
 clear hW1 hr h hpl hbl
 go_upto_region 2 with (first
  | (go_at_call 97; (refine (text_yes HP1.out hT hat hu hs).mono ?_); rintro e w2 ⟨rfl, hp, hg⟩; have HG2 : Hid (GrowA pb w w2) := (HG1.out.trans hg); have HP2 : Hid (PaS w2 pb b c T { st with at' := st.at' + 1 }) := hp; have HR2 : Hid (ClB w2 r #[.int .i64 0, .string ⟨#[]⟩, .string ⟨#[]⟩, .bool false, .int .i64 0, .int .i64 0, .int .i64 0, .string ⟨#[]⟩, .string ⟨#[]⟩, .int .i64 0, .int .i64 0, .int .i64 0, .string ⟨#[]⟩, .slice none 0 0, .slice none 0 0]) := (HR1.out.grow hg hrp); clear hp hg HP1 HG1 HR1))
 obtain ⟨W3, hW3⟩ : ∃ W, W = w2.alloc (.cells #[.int .i64 1, .string us, .string ⟨#[]⟩, .bool false, .int .i64 0, .int .i64 0, .int .i64 0, .string ⟨#[]⟩, .string ⟨#[]⟩, .int .i64 0, .int .i64 0, .int .i64 0, .string ⟨#[]⟩, .slice none 0 0, .slice none 0 0] 74) := ⟨_, rfl⟩
 have HP3 : Hid (PaS W3 pb b c T { st with at' := st.at' + 1 }) := by rw [hW3]; exact HP2.out.allocI _
 have HG3 : Hid (GrowA pb w W3) := by rw [hW3]; exact HG2.out.alloc _
 have HR3 : Hid (ClB W3 r #[.int .i64 0, .string ⟨#[]⟩, .string ⟨#[]⟩, .bool false, .int .i64 0, .int .i64 0, .int .i64 0, .string ⟨#[]⟩, .string ⟨#[]⟩, .int .i64 0, .int .i64 0, .int .i64 0, .string ⟨#[]⟩, .slice none 0 0, .slice none 0 0]) := by rw [hW3]; exact HR2.out.allocI _
 have HX3 : Hid (ClB W3 w2.heap.size #[.int .i64 1, .string us, .string ⟨#[]⟩, .bool false, .int .i64 0, .int .i64 0, .int .i64 0, .string ⟨#[]⟩, .string ⟨#[]⟩, .int .i64 0, .int .i64 0, .int .i64 0, .string ⟨#[]⟩, .slice none 0 0, .slice none 0 0]) := by rw [hW3]; exact ClB.new w2 _
 have hxp : w2.heap.size ≠ pb := by have := HP2.out.pl; omega
 have hxb : w2.heap.size ≠ b := by have := HP2.out.bl; omega
 have hxw : w.heap.size ≤ w2.heap.size := HG2.out.1
 have hrx2 : r < w2.heap.size := HR2.out.lt
 have hrx : r ≠ w2.heap.size := by omega
 rw [← hW3]
 clear hW3 HP2 HG2 HR2
 go_upto_region 6 with (first
  | (go_at_call 81; have HNX := HP3; refine (word_is _ _).mono ?_; rintro e w4 ⟨rfl, hb⟩; have HG4 : Hid (GrowA pb w w4) := (HG3.out.below hb); have HP4 : Hid (PaS w4 pb b c T { st with at' := st.at' + 1 }) := (HP3.out.below hb); have HR4 : Hid (ClB w4 r #[.int .i64 0, .string ⟨#[]⟩, .string ⟨#[]⟩, .bool false, .int .i64 0, .int .i64 0, .int .i64 0, .string ⟨#[]⟩, .string ⟨#[]⟩, .int .i64 0, .int .i64 0, .int .i64 0, .string ⟨#[]⟩, .slice none 0 0, .slice none 0 0]) := (HR3.out.below hb); have HX4 : Hid (ClB w4 w2.heap.size #[.int .i64 1, .string us, .string ⟨#[]⟩, .bool false, .int .i64 0, .int .i64 0, .int .i64 0, .string ⟨#[]⟩, .string ⟨#[]⟩, .int .i64 0, .int .i64 0, .int .i64 0, .string ⟨#[]⟩, .slice none 0 0, .slice none 0 0]) := (HX3.out.below hb); clear hb HNX HP3 HG3 HR3 HX3)
  | (go_at_call 69; (refine (skip_no HP4.out hT ha1 _ _ _ n1).mono ?_); rintro e w5 ⟨rfl, hp, hg⟩; have HG5 : Hid (GrowA pb w w5) := (HG4.out.trans hg); have HP5 : Hid (PaS w5 pb b c T { st with at' := st.at' + 1 }) := hp; have HR5 : Hid (ClB w5 r #[.int .i64 0, .string ⟨#[]⟩, .string ⟨#[]⟩, .bool false, .int .i64 0, .int .i64 0, .int .i64 0, .string ⟨#[]⟩, .string ⟨#[]⟩, .int .i64 0, .int .i64 0, .int .i64 0, .string ⟨#[]⟩, .slice none 0 0, .slice none 0 0]) := (HR4.out.grow hg hrp); have HX5 : Hid (ClB w5 w2.heap.size #[.int .i64 1, .string us, .string ⟨#[]⟩, .bool false, .int .i64 0, .int .i64 0, .int .i64 0, .string ⟨#[]⟩, .string ⟨#[]⟩, .int .i64 0, .int .i64 0, .int .i64 0, .string ⟨#[]⟩, .slice none 0 0, .slice none 0 0]) := (HX4.out.grow hg hxp); clear hp hg HP4 HG4 HR4 HX4)
  | (go_at_call 81; have HNX := HP5; refine (word_is _ _).mono ?_; rintro e w6 ⟨rfl, hb⟩; have HG6 : Hid (GrowA pb w w6) := (HG5.out.below hb); have HP6 : Hid (PaS w6 pb b c T { st with at' := st.at' + 1 }) := (HP5.out.below hb); have HR6 : Hid (ClB w6 r #[.int .i64 0, .string ⟨#[]⟩, .string ⟨#[]⟩, .bool false, .int .i64 0, .int .i64 0, .int .i64 0, .string ⟨#[]⟩, .string ⟨#[]⟩, .int .i64 0, .int .i64 0, .int .i64 0, .string ⟨#[]⟩, .slice none 0 0, .slice none 0 0]) := (HR5.out.below hb); have HX6 : Hid (ClB w6 w2.heap.size #[.int .i64 1, .string us, .string ⟨#[]⟩, .bool false, .int .i64 0, .int .i64 0, .int .i64 0, .string ⟨#[]⟩, .string ⟨#[]⟩, .int .i64 0, .int .i64 0, .int .i64 0, .string ⟨#[]⟩, .slice none 0 0, .slice none 0 0]) := (HX5.out.below hb); clear hb HNX HP5 HG5 HR5 HX5)
  | (go_at_call 96; (refine (want_eq HP6.out hT ha1 hw).mono ?_); rintro e w7 ⟨rfl, hp, hg⟩; have HG7 : Hid (GrowA pb w w7) := (HG6.out.trans hg); have HP7 : Hid (PaS w7 pb b c T s2) := hp; have HR7 : Hid (ClB w7 r #[.int .i64 0, .string ⟨#[]⟩, .string ⟨#[]⟩, .bool false, .int .i64 0, .int .i64 0, .int .i64 0, .string ⟨#[]⟩, .string ⟨#[]⟩, .int .i64 0, .int .i64 0, .int .i64 0, .string ⟨#[]⟩, .slice none 0 0, .slice none 0 0]) := (HR6.out.grow hg hrp); have HX7 : Hid (ClB w7 w2.heap.size #[.int .i64 1, .string us, .string ⟨#[]⟩, .bool false, .int .i64 0, .int .i64 0, .int .i64 0, .string ⟨#[]⟩, .string ⟨#[]⟩, .int .i64 0, .int .i64 0, .int .i64 0, .string ⟨#[]⟩, .slice none 0 0, .slice none 0 0]) := (HX6.out.grow hg hxp); clear hp hg HP6 HG6 HR6 HX6)
  | (go_at_call 68; (first | refine (HLU.out.use HTB.out HP7.out HG7.out (show w2.heap.size < _ from by have k := HX7.out.lt; first | exact k | (simp; omega))).mono ?_ | refine (HLU.out.use HTB.out (HP7.out.allocI _) (HG7.out.alloc _) (show w2.heap.size < _ from by have k := HX7.out.lt; first | exact k | (simp; omega))).mono ?_ | refine (HLU.out.use HTB.out ((HP7.out.allocI _).allocI _) ((HG7.out.alloc _).alloc _) (show w2.heap.size < _ from by have k := HX7.out.lt; first | exact k | (simp; omega))).mono ?_); rintro e w8 ⟨lo1, v, hlo, hv, rfl, hp, hg⟩; obtain ⟨k0_1, k1_1, k2_1, k5_1, k6_1, k7_1, s3_1, s4_1, s8_1, a9_1, a10_1, l9_1, c9_1, l10_1, c10_1, rfl⟩ := hv.form; have hlo1 := hlo.1; have hlp1 := hlo.2.1; have hlz1 := hlo.2.2; have HG8 : Hid (GrowA pb w w8) := (HG7.out.trans hg); have HP8 : Hid (PaS w8 pb b c T s3) := hp; have HR8 : Hid (ClB w8 r #[.int .i64 0, .string ⟨#[]⟩, .string ⟨#[]⟩, .bool false, .int .i64 0, .int .i64 0, .int .i64 0, .string ⟨#[]⟩, .string ⟨#[]⟩, .int .i64 0, .int .i64 0, .int .i64 0, .string ⟨#[]⟩, .slice none 0 0, .slice none 0 0]) := (HR7.out.grow hg hrp); have HX8 : Hid (ClB w8 w2.heap.size #[.int .i64 1, .string us, .string ⟨#[]⟩, .bool false, .int .i64 0, .int .i64 0, .int .i64 0, .string ⟨#[]⟩, .string ⟨#[]⟩, .int .i64 0, .int .i64 0, .int .i64 0, .string ⟨#[]⟩, .slice none 0 0, .slice none 0 0]) := (HX7.out.grow hg hxp); have HV1_8 : Hid (Tre w8 lo1 p [.int .i64 k0_1, .int .i64 k1_1, .int .i64 k2_1, .string s3_1, .string s4_1, .int .i64 k5_1, .int .i64 k6_1, .int .i64 k7_1, .string s8_1, .slice a9_1 l9_1 c9_1, .slice a10_1 l10_1 c10_1]) := hv; obtain ⟨⟨m0, m1, m2, m3, m4, m5, m6, m7, m8, m9, m10, m11, m12, m13, m14⟩, j0, j1, j2, j3, j4, j5, j6, j7, j8, j9, j10, j11, j12, j13, j14⟩ := HX8.out.cells; have hxz := HX8.out.lt; clear hv hlo hp hg HP7 HG7 HR7 HX7))
 obtain ⟨W9, hW9⟩ : ∃ W, W = putC w8 w2.heap.size 4 [.int .i64 k0_1, .int .i64 k1_1, .int .i64 k2_1, .string s3_1, .string s4_1, .int .i64 k5_1, .int .i64 k6_1, .int .i64 k7_1, .string s8_1, .slice a9_1 l9_1 c9_1, .slice a10_1 l10_1 c10_1] := ⟨_, rfl⟩
 have HP9 : Hid (PaS W9 pb b c T s3) := by rw [hW9]; exact HP8.out.put hxp hxb 4 _
 have HG9 : Hid (GrowA pb w W9) := by rw [hW9]; exact putC_grow hxw _ _ _ HG8.out
 have HR9 : Hid (ClB W9 r #[.int .i64 0, .string ⟨#[]⟩, .string ⟨#[]⟩, .bool false, .int .i64 0, .int .i64 0, .int .i64 0, .string ⟨#[]⟩, .string ⟨#[]⟩, .int .i64 0, .int .i64 0, .int .i64 0, .string ⟨#[]⟩, .slice none 0 0, .slice none 0 0]) := by rw [hW9]; exact HR8.out.put hrx 4 _
 have HX9 : Hid (ClB W9 w2.heap.size #[.int .i64 1, .string us, .string ⟨#[]⟩, .bool false, .int .i64 k0_1, .int .i64 k1_1, .int .i64 k2_1, .string s3_1, .string s4_1, .int .i64 k5_1, .int .i64 k6_1, .int .i64 k7_1, .string s8_1, .slice a9_1 l9_1 c9_1, .slice a10_1 l10_1 c10_1]) := by rw [hW9]; exact HX8.out.expr
 have HV1_9 : Hid (Tre W9 lo1 p [.int .i64 k0_1, .int .i64 k1_1, .int .i64 k2_1, .string s3_1, .string s4_1, .int .i64 k5_1, .int .i64 k6_1, .int .i64 k7_1, .string s8_1, .slice a9_1 l9_1 c9_1, .slice a10_1 l10_1 c10_1]) := by rw [hW9]; exact HV1_8.out.put hlo1 4 _
 simp only [putC] at hW9
 rw [← hW9]
 clear hW9 HP8 HG8 HR8 HX8 HV1_8 hxz m0 j0 m1 j1 m2 j2 m3 j3 m4 j4 m5 j5 m6 j6 m7 j7 m8 j8 m9 j9 m10 j10 m11 j11 m12 j12 m13 j13 m14 j14
 obtain ⟨⟨y0, y1, y2, y3, y4, y5, y6, y7, y8, y9, y10, y11, y12, y13, y14⟩, z0, z1, z2, z3, z4, z5, z6, z7, z8, z9, z10, z11, z12, z13, z14⟩ := HR9.out.cells
 obtain ⟨⟨m0, m1, m2, m3, m4, m5, m6, m7, m8, m9, m10, m11, m12, m13, m14⟩, j0, j1, j2, j3, j4, j5, j6, j7, j8, j9, j10, j11, j12, j13, j14⟩ := HX9.out.cells
 have hlr1 : r < lo1 := by omega
 go_wp2
 refine bodyPost_ret (v := .agg #[.int .i64 1, .string us, .string ⟨#[]⟩, .bool false, .int .i64 k0_1, .int .i64 k1_1, .int .i64 k2_1, .string s3_1, .string s4_1, .int .i64 k5_1, .int .i64 k6_1, .int .i64 k7_1, .string s8_1, .slice a9_1 l9_1 c9_1, .slice a10_1 l10_1 c10_1]) (by simp [results, Tryz.results111, go_sem, y0, y1, y2, y3, y4, y5, y6, y7, y8, y9, y10, y11, y12, y13, y14]) rfl ⟨[.int .i64 k0_1, .int .i64 k1_1, .int .i64 k2_1, .string s3_1, .string s4_1, .int .i64 k5_1, .int .i64 k6_1, .int .i64 k7_1, .string s8_1, .slice a9_1 l9_1 c9_1, .slice a10_1 l10_1 c10_1], ?_, rfl, ?_, ?_⟩
 · refine Tre.mono (lo := lo1) ?_ (by have := HRW.out; omega)
   (repeat (first | with_reducible refine Tre.setR ?_ hlr1 _ _ | with_reducible refine Tre.allocI ?_ _ | with_reducible exact HV1_9.out))
 · (repeat (first | with_reducible refine PaS.setR ?_ hrp hrb _ _ | with_reducible refine PaS.allocI ?_ _ | exact HP9.out))
 · (repeat (first | with_reducible refine GrowA.setR ?_ HRW.out _ _ | with_reducible refine GrowA.alloc ?_ _ | exact HG9.out))
end Go.Proofs.YtbnlekhjgkojlaaGreatDoor
