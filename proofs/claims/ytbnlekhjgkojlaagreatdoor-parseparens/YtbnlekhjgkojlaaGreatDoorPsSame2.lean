import Derived.Test.YtbnlekhjgkojlaaGreatDoorLaidQ
import Derived.Test.YtbnlekhjgkojlaaGreatDoorPtMake
import Derived.Test.YtbnlekhjgkojlaaGreatDoorPkPick
import Derived.Shelf.Strconv.Clone
set_option linter.unusedVariables false
namespace Go.Proofs.YtbnlekhjgkojlaaGreatDoor
set_option maxRecDepth 100000
open Go.RowKit
def RTab (w : World) (pb : Nat) : Prop := OpTab w ∧ KtTab w ∧ AxTab w ∧ 5 ≠ pb ∧ 9 ≠ pb ∧ 8 ≠ pb
theorem RTab.grow {w w' : World} {pb : Nat} (h : RTab w pb) (hg : GrowA pb w w') : RTab w' pb := ⟨h.1.grow hg h.2.2.2.1, h.2.1.grow hg h.2.2.2.2.1, h.2.2.1.grow hg h.2.2.2.2.2, h.2.2.2⟩
def RunT (pb b c : Nat) (T : List Tok) (f : Nat) (args : Array Value) (st st' : Pst) (p : Ph) : Prop := ∀ (w : World), PaS w pb b c T st → RTab w pb → Calls Tryz.prog f args w fun e w' => ∃ v, Tre w' w.heap.size p v ∧ e = .returned (.agg v.toArray) ∧ PaS w' pb b c T st' ∧ GrowA pb w w'
def RunL (pb b c : Nat) (T : List Tok) (f : Nat) (st st' : Pst) (n : Nat) (A : Nat → Ph) : Prop := ∀ (w : World), PaS w pb b c T st → RTab w pb → Calls Tryz.prog f #[.pointer (some ⟨pb, 0, none⟩)] w fun e w' => ∃ v, Phs w' w.heap.size n A v ∧ e = .returned v ∧ PaS w' pb b c T st' ∧ GrowA pb w w'
theorem RunT.use {pb b c : Nat} {T : List Tok} {f : Nat} {args : Array Value} {st st' : Pst} {p : Ph} (h : RunT pb b c T f args st st' p) {w W : World} {r0 : Nat} (ht : RTab w pb) (hp : PaS W pb b c T st) (hg : GrowA pb w W) (hl : r0 < W.heap.size) :
 Calls Tryz.prog f args W fun e w' => ∃ lo v, (r0 < lo ∧ pb < lo ∧ lo ≤ w'.heap.size) ∧ Tre w' lo p v ∧ e = .returned (.agg v.toArray) ∧ PaS w' pb b c T st' ∧ GrowA pb W w' :=
 (h W hp (ht.grow hg)).mono fun e w' ⟨v, h1, h2, h3, h4⟩ => ⟨W.heap.size, v, ⟨hl, hp.pl, h4.1⟩, h1, h2, h3, h4⟩
theorem RunL.use {pb b c : Nat} {T : List Tok} {f : Nat} {st st' : Pst} {n : Nat} {A : Nat → Ph} (h : RunL pb b c T f st st' n A) {w W : World} {r0 : Nat} (ht : RTab w pb) (hp : PaS W pb b c T st) (hg : GrowA pb w W) (hl : r0 < W.heap.size) :
 Calls Tryz.prog f #[.pointer (some ⟨pb, 0, none⟩)] W fun e w' => ∃ lo v, (r0 < lo ∧ pb < lo ∧ lo ≤ w'.heap.size) ∧ Phs w' lo n A v ∧ e = .returned v ∧ PaS w' pb b c T st' ∧ GrowA pb W w' :=
 (h W hp (ht.grow hg)).mono fun e w' ⟨v, h1, h2, h3, h4⟩ => ⟨W.heap.size, v, ⟨hl, hp.pl, h4.1⟩, h1, h2, h3, h4⟩
theorem Phs.below {w w' : World} {lo na : Nat} {A : Nat → Ph} {v : Value} (h : Phs w lo na A v) (hb : Below w.heap.size w w') : Phs w' lo na A v := by
 obtain ⟨a, c, h1, h2, h2', h3⟩ := h
 refine ⟨a, c, h1, h2, h2', fun hn => ?_⟩
 obtain ⟨g, q1, q2, q3⟩ := h3 hn
 refine ⟨g, q1, ⟨q2.1, Nat.lt_of_lt_of_le q2.2 hb.size⟩, fun i hi => ?_⟩
 obtain ⟨u, r1, r2⟩ := q3 i hi
 exact ⟨u, r1.keep (hb.block g q2.2), r2.below hb⟩
def TkB (w : World) (x : Nat) (v : Array Value) : Prop := w.heap[x]? = some (.cells v 41)
theorem TkB.lt {w : World} {r : Nat} {v : Array Value} (h : TkB w r v) : r < w.heap.size := (Array.getElem?_eq_some_iff.1 h).1
theorem TkB.new (w : World) (v : Array Value) : TkB (w.alloc (.cells v 41)) w.heap.size v := heap_alloc_new _ _
theorem TkB.grow {w w' : World} {pb r : Nat} {v : Array Value} (h : TkB w r v) (hg : GrowA pb w w') (hr : r ≠ pb) : TkB w' r v := (hg.2.2.2.2 r h.lt hr).trans h
theorem TkB.below {w w' : World} {r : Nat} {v : Array Value} (h : TkB w r v) (hb : Below w.heap.size w w') : TkB w' r v := (hb.block r h.lt).trans h
theorem TkB.allocI {w : World} {r : Nat} {v : Array Value} (h : TkB w r v) (o : Obj) : TkB (w.alloc o) r v := h.below ((Below.refl _ _).alloc (Nat.le_refl _) o)
theorem TkB.cells {w : World} {r : Nat} {k n : Int} {s : ByteArray} (h : TkB w r #[.int .i64 k, .string s, .int .i64 n]) : w.cell? ⟨r, 0, none⟩ = some (.int .i64 k) ∧ w.cell? ⟨r, 1, none⟩ = some (.string s) ∧ w.cell? ⟨r, 2, none⟩ = some (.int .i64 n) := by
 unfold TkB at h
 refine ⟨?_, ?_, ?_⟩ <;> simp [World.cell?, h]
theorem PhB.put {w : World} {r : Nat} {y0 y1 y2 y3 y4 y5 y6 y7 y8 y9 y10 : Value} (h : PhB w r #[y0, y1, y2, y3, y4, y5, y6, y7, y8, y9, y10]) {x0 x1 x2 x3 x4 x5 x6 x7 x8 x9 x10 : Value} : PhB (((((((((((w.setCell ⟨r, 0, none⟩ x0).setCell ⟨r, 1, none⟩ x1).setCell ⟨r, 2, none⟩ x2).setCell ⟨r, 3, none⟩ x3).setCell ⟨r, 4, none⟩ x4).setCell ⟨r, 5, none⟩ x5).setCell ⟨r, 6, none⟩ x6).setCell ⟨r, 7, none⟩ x7).setCell ⟨r, 8, none⟩ x8).setCell ⟨r, 9, none⟩ x9).setCell ⟨r, 10, none⟩ x10) r #[x0, x1, x2, x3, x4, x5, x6, x7, x8, x9, x10] := by
 unfold PhB at h ⊢
 simp [World.setCell, Array.getElem?_modify, h]
theorem PhB.setAt {w : World} {r : Nat} {v : Array Value} (h : PhB w r v) (k : Nat) (u : Value) : PhB (w.setCell ⟨r, k, none⟩ u) r (v.setIfInBounds k u) := by
 unfold PhB at h ⊢
 simp [World.setCell, Array.getElem?_modify, h]
theorem PhB.setO {w : World} {r x : Nat} {v : Array Value} (h : PhB w r v) (hn : r ≠ x) (k : Nat) (u : Value) : PhB (w.setCell ⟨x, k, none⟩ u) r v := (Below.heap_setCell _ _ _ _ (by simpa using hn)).trans h
theorem TkB.setO {w : World} {r x : Nat} {v : Array Value} (h : TkB w r v) (hn : r ≠ x) (k : Nat) (u : Value) : TkB (w.setCell ⟨x, k, none⟩ u) r v := (Below.heap_setCell _ _ _ _ (by simpa using hn)).trans h
theorem phs_new {w : World} {lo : Nat} {p : Ph} {u : List Value} (hp : Tre w lo p u) (hl : lo ≤ w.heap.size) (hu : u.length = 11) : Phs (w.alloc (.cells u.toArray 36)) lo 1 (fun _ => p) (.slice (some ⟨w.heap.size, 0, none⟩) 1 1) := phs_one (heap_alloc_new _ _) hl (hp.allocI _) hu
theorem phs_at {w : World} {lo g : Nat} {p : Ph} {u : List Value} (hg : w.heap.size = g) (hp : Tre w lo p u) (hl : lo ≤ g) (hu : u.length = 11) : Phs (w.alloc (.cells u.toArray 36)) lo 1 (fun _ => p) (.slice (some ⟨g, 0, none⟩) 1 1) := by
 subst hg
 exact phs_new hp hl hu
open Go.RowKit
theorem want_eq {w : World} {pb b c : Nat} {T : List Tok} {st : Pst} (h : PaS w pb b c T st) (hT : T.length ≤ 200) (hat : st.at' ≤ 300) {k n : Int} {s : ByteArray} {st2 : Pst} (hs : wantM T st ⟨k, s, n⟩ = st2) :
 Calls Tryz.prog 96 #[.pointer (some ⟨pb, 0, none⟩), .agg #[.int .i64 k, .string s, .int .i64 n]] w fun e w' => e = .returned (.tuple #[]) ∧ PaS w' pb b c T st2 ∧ GrowA pb w w' := by
 have := want_is h ⟨k, s, n⟩ hT hat
 rw [hs] at this
 exact this
set_option maxHeartbeats 1600000 in
theorem clone_of (s : ByteArray) (w : World) (hs : s.size ≤ 4000) : Calls Tryz.prog 57 #[.string s] w fun e w' => e = .returned (.string s) ∧ Below w.heap.size w w' := by
 have CC : Hid (∀ W, Calls Tryz.prog 76 #[.string s] W fun e w' => e = .returned (.string s) ∧ Below W.heap.size W w') := fun W => (Tryz.stringslite_Clone s W (by omega)).mono fun e w' h => h
 go_enter Tryz.func57, Tryz.ntmps57
 go_wp2_with (go_at_call 76; refine (CC.out _).mono ?_; rintro e w1 ⟨rfl, hb1⟩)
 all_goals (exact bodyPost_ret (v := .string s) (by simp [results, Tryz.results57, go_sem]) rfl ⟨rfl, hb1⟩)
set_option maxHeartbeats 1600000 in
theorem text_yes {w : World} {pb b c : Nat} {T : List Tok} {st : Pst} (h : PaS w pb b c T st) (hT : T.length ≤ 200) (hat : st.at' ≤ 300) {k un : Int} {us : ByteArray} (hu : seeM T st 0 = ⟨k, us, un⟩) (hs : us.size ≤ 4000) :
 Calls Tryz.prog 97 #[.pointer (some ⟨pb, 0, none⟩), .int .i64 k] w fun e w' => e = .returned (.string us) ∧ PaS w' pb b c T { st with at' := st.at' + 1 } ∧ GrowA pb w w' := by
 have HP1 : Hid (PaS w pb b c T st) := h
 have HG1 : Hid (GrowA pb w w) := GrowA.refl _ _
 have hk2 : (k != k) = false := by simp
 have hwr : IntKind.i64.wrap ((st.at' : Int) + 1) = ((st.at' + 1 : Nat) : Int) := by rw [IntWalk.i64_in _ (by omega)]; simp
 have CL : Hid (∀ W, Calls Tryz.prog 57 #[.string us] W fun e w' => e = .returned (.string us) ∧ Below W.heap.size W w') := fun W => clone_of us W hs
 clear h
 go_enter Tryz.func97, Tryz.ntmps97
 go_upto_region 2 with (first
  | (go_at_call 65; (refine (see_lit HP1.out 0 (by omega) hT hat hu).mono ?_); rintro e w2 ⟨rfl, hb⟩; have HG2 := HidOf (HG1.out.below hb); have HP2 := HidOf (HP1.out.below hb); have hxp : w2.heap.size ≠ pb := (by have := HP2.out.pl; omega); clear hb HP1 HG1))
 obtain ⟨W3, hW3⟩ : ∃ W, W = w2.alloc (.cells #[.int .i64 k, .string us, .int .i64 un] 41) := ⟨_, rfl⟩
 have HP3 : Hid (PaS W3 pb b c T st) := by rw [hW3]; exact HP2.out.allocI _
 have HG3 : Hid (GrowA pb w W3) := by rw [hW3]; exact HG2.out.alloc _
 have HX3 : Hid (TkB W3 w2.heap.size #[.int .i64 k, .string us, .int .i64 un]) := by rw [hW3]; exact TkB.new w2 _
 have hxp : w2.heap.size ≠ pb := by have := HP2.out.pl; omega
 rw [← hW3]
 clear hW3 HP2 HG2
 have x1 := HP3.out.a
 have f1 := HP3.out.fa
 have hl3 := HP3.out.pl
 have hx3 := HX3.out.lt
 obtain ⟨d0, d1, d2⟩ := HX3.out.cells
 obtain ⟨W4, hW4⟩ : ∃ W, W = W3.setCell ⟨pb, 1, none⟩ (.int .i64 ((st.at' : Int) + 1)) := ⟨_, rfl⟩
 have HP4 : Hid (PaS W4 pb b c T { st with at' := st.at' + 1 }) := by rw [hW4]; exact HP3.out.setA (st.at' + 1)
 have HG4 : Hid (GrowA pb w W4) := by rw [hW4]; exact HG3.out.set 1 _
 have HX4 : Hid (TkB W4 w2.heap.size #[.int .i64 k, .string us, .int .i64 un]) := by rw [hW4]; exact HX3.out.grow ((GrowA.refl _ _).set 1 _) hxp
 go_upto_region 6 with fail
 rw [← hW4]
 clear hW4 x1 f1 hl3 hx3 d0 d1 d2
 obtain ⟨d0, d1, d2⟩ := HX4.out.cells
 have hx4 := HX4.out.lt
 go_wp2_with (go_at_call 57; refine (CL.out _).mono ?_; rintro e w5 ⟨rfl, hb5⟩)
 go_ret
 exact ⟨rfl, HP4.out.below hb5, HG4.out.below hb5⟩
open Go.RowKit
set_option maxHeartbeats 1600000 in
theorem noStep_num {pb b c : Nat} {T : List Tok} {st : Pst} {us : ByteArray} {un : Int} (hT : T.length ≤ 200) (hat : st.at' ≤ 300) (hu : seeM T st 0 = ⟨2, us, un⟩) : RunT pb b c T 126 #[.pointer (some ⟨pb, 0, none⟩)] st { st with at' := st.at' + 1 } (ph0 1 ⟨2, un, ⟨#[]⟩⟩ ⟨#[]⟩ 0 0 0 ⟨#[]⟩) := by
 intro w h htb
 have HTB : Hid (RTab w pb) := htb
 clear htb
 have hpl := h.pl
 have hbl := h.bl
 go_enter Tryz.func126, Tryz.ntmps126
 go_upto_region 1 with fail
 obtain ⟨W1, hW1⟩ : ∃ W, W = w.alloc (.cells #[.int .i64 0, .int .i64 0, .int .i64 0, .string ⟨#[]⟩, .string ⟨#[]⟩, .int .i64 0, .int .i64 0, .int .i64 0, .string ⟨#[]⟩, .slice none 0 0, .slice none 0 0] 36) := ⟨_, rfl⟩
 have HG1 : Hid (GrowA pb w W1) := by rw [hW1]; exact (GrowA.refl _ _).alloc _
 have HP1 : Hid (PaS W1 pb b c T st) := by rw [hW1]; exact h.allocI _
 have HR1 : Hid (PhZ W1 w.heap.size) := by rw [hW1]; exact PhB.new w _
 rw [← hW1]
 obtain ⟨r, hr⟩ : ∃ r, r = w.heap.size := ⟨_, rfl⟩
 have HRW : Hid (w.heap.size ≤ r) := Nat.le_of_eq hr.symm
 have hrp : r ≠ pb := by omega
 have hrb : r ≠ b := by omega
 rw [← hr] at HR1 ⊢
 clear hW1 hr h hpl hbl
 go_upto_region 2 with (first
  | (go_at_call 65; (refine (see_lit HP1.out 0 (by omega) hT hat hu).mono ?_); rintro e w2 ⟨rfl, hb⟩; have HG2 := HidOf (HG1.out.below hb); have HP2 := HidOf (HP1.out.below hb); have HR2 := HidOf (HR1.out.below hb); have hxp : w2.heap.size ≠ pb := (by have := HP2.out.pl; omega); clear hb HP1 HG1 HR1))
 obtain ⟨W3, hW3⟩ : ∃ W, W = w2.alloc (.cells #[.int .i64 2, .string us, .int .i64 un] 41) := ⟨_, rfl⟩
 have HP3 : Hid (PaS W3 pb b c T st) := by rw [hW3]; exact HP2.out.allocI _
 have HG3 : Hid (GrowA pb w W3) := by rw [hW3]; exact HG2.out.alloc _
 have HR3 : Hid (PhZ W3 r) := by rw [hW3]; exact HR2.out.allocI _
 have HX3 : Hid (TkB W3 w2.heap.size #[.int .i64 2, .string us, .int .i64 un]) := by rw [hW3]; exact TkB.new w2 _
 have hxp : w2.heap.size ≠ pb := by have := HP2.out.pl; omega
 rw [← hW3]
 clear hW3 HP2 HG2 HR2
 have x1 := HP3.out.a
 have f1 := HP3.out.fa
 have hl3 := HP3.out.pl
 have hx3 := HX3.out.lt
 have hr3 := HR3.out.lt
 obtain ⟨d0, d1, d2⟩ := HX3.out.cells
 have hwr : IntKind.i64.wrap ((st.at' : Int) + 1) = ((st.at' + 1 : Nat) : Int) := by rw [IntWalk.i64_in _ (by omega)]; simp
 obtain ⟨W4, hW4⟩ : ∃ W, W = W3.setCell ⟨pb, 1, none⟩ (.int .i64 ((st.at' : Int) + 1)) := ⟨_, rfl⟩
 have HP4 : Hid (PaS W4 pb b c T { st with at' := st.at' + 1 }) := by rw [hW4]; exact HP3.out.setA (st.at' + 1)
 have HG4 : Hid (GrowA pb w W4) := by rw [hW4]; exact HG3.out.set 1 _
 have HR4 : Hid (PhZ W4 r) := by rw [hW4]; exact HR3.out.grow ((GrowA.refl _ _).set 1 _) hrp
 have HX4 : Hid (TkB W4 w2.heap.size #[.int .i64 2, .string us, .int .i64 un]) := by rw [hW4]; exact HX3.out.grow ((GrowA.refl _ _).set 1 _) hxp
 go_upto_region 4 with fail
 rw [← hW4]
 clear hW4 x1 f1 hl3 hx3 hr3 d0 d1 d2 HP3 HG3 HR3 HX3
 obtain ⟨d0, d1, d2⟩ := HX4.out.cells
 have hx4 := HX4.out.lt
 have hr4 := HR4.out.lt
 obtain ⟨⟨y0, y1, y2, y3, y4, y5, y6, y7, y8, y9, y10⟩, z0, z1, z2, z3, z4, z5, z6, z7, z8, z9, z10⟩ := HR4.out.cells
 go_wp2
 refine bodyPost_ret (v := .agg #[.int .i64 1, .int .i64 2, .int .i64 un, .string ⟨#[]⟩, .string ⟨#[]⟩, .int .i64 0, .int .i64 0, .int .i64 0, .string ⟨#[]⟩, .slice none 0 0, .slice none 0 0]) (by simp [results, Tryz.results126, go_sem, y0, y1, y2, y3, y4, y5, y6, y7, y8, y9, y10]) rfl ⟨[.int .i64 1, .int .i64 2, .int .i64 un, .string ⟨#[]⟩, .string ⟨#[]⟩, .int .i64 0, .int .i64 0, .int .i64 0, .string ⟨#[]⟩, .slice none 0 0, .slice none 0 0], ?_, rfl, ?_, ?_⟩
 · exact tre_ph0
 · (repeat (first | with_reducible refine PaS.setR ?_ hrp hrb _ _ | with_reducible refine PaS.allocI ?_ _ | exact HP4.out))
 · (repeat (first | with_reducible refine GrowA.setR ?_ HRW.out _ _ | with_reducible refine GrowA.alloc ?_ _ | exact HG4.out))
set_option maxHeartbeats 1600000 in
theorem noStep_quo {pb b c : Nat} {T : List Tok} {st : Pst} {us : ByteArray} {un : Int} (hT : T.length ≤ 200) (hat : st.at' ≤ 300) (hu : seeM T st 0 = ⟨3, us, un⟩) (hs : us.size ≤ 4000) : RunT pb b c T 126 #[.pointer (some ⟨pb, 0, none⟩)] st { st with at' := st.at' + 1 } (ph0 1 ⟨3, 0, us⟩ ⟨#[]⟩ 0 0 0 ⟨#[]⟩) := by
 intro w h htb
 have HTB : Hid (RTab w pb) := htb
 clear htb
 have CL : Hid (∀ W, Calls Tryz.prog 57 #[.string us] W fun e w' => e = .returned (.string us) ∧ Below W.heap.size W w') := fun W => clone_of us W hs
 have hpl := h.pl
 have hbl := h.bl
 go_enter Tryz.func126, Tryz.ntmps126
 go_upto_region 1 with fail
 obtain ⟨W1, hW1⟩ : ∃ W, W = w.alloc (.cells #[.int .i64 0, .int .i64 0, .int .i64 0, .string ⟨#[]⟩, .string ⟨#[]⟩, .int .i64 0, .int .i64 0, .int .i64 0, .string ⟨#[]⟩, .slice none 0 0, .slice none 0 0] 36) := ⟨_, rfl⟩
 have HG1 : Hid (GrowA pb w W1) := by rw [hW1]; exact (GrowA.refl _ _).alloc _
 have HP1 : Hid (PaS W1 pb b c T st) := by rw [hW1]; exact h.allocI _
 have HR1 : Hid (PhZ W1 w.heap.size) := by rw [hW1]; exact PhB.new w _
 rw [← hW1]
 obtain ⟨r, hr⟩ : ∃ r, r = w.heap.size := ⟨_, rfl⟩
 have HRW : Hid (w.heap.size ≤ r) := Nat.le_of_eq hr.symm
 have hrp : r ≠ pb := by omega
 have hrb : r ≠ b := by omega
 rw [← hr] at HR1 ⊢
 clear hW1 hr h hpl hbl
 go_upto_region 2 with (first
  | (go_at_call 65; (refine (see_lit HP1.out 0 (by omega) hT hat hu).mono ?_); rintro e w2 ⟨rfl, hb⟩; have HG2 := HidOf (HG1.out.below hb); have HP2 := HidOf (HP1.out.below hb); have HR2 := HidOf (HR1.out.below hb); have hxp : w2.heap.size ≠ pb := (by have := HP2.out.pl; omega); clear hb HP1 HG1 HR1))
 obtain ⟨W3, hW3⟩ : ∃ W, W = w2.alloc (.cells #[.int .i64 3, .string us, .int .i64 un] 41) := ⟨_, rfl⟩
 have HP3 : Hid (PaS W3 pb b c T st) := by rw [hW3]; exact HP2.out.allocI _
 have HG3 : Hid (GrowA pb w W3) := by rw [hW3]; exact HG2.out.alloc _
 have HR3 : Hid (PhZ W3 r) := by rw [hW3]; exact HR2.out.allocI _
 have HX3 : Hid (TkB W3 w2.heap.size #[.int .i64 3, .string us, .int .i64 un]) := by rw [hW3]; exact TkB.new w2 _
 have hxp : w2.heap.size ≠ pb := by have := HP2.out.pl; omega
 rw [← hW3]
 clear hW3 HP2 HG2 HR2
 have x1 := HP3.out.a
 have f1 := HP3.out.fa
 have hl3 := HP3.out.pl
 have hx3 := HX3.out.lt
 have hr3 := HR3.out.lt
 obtain ⟨d0, d1, d2⟩ := HX3.out.cells
 have hwr : IntKind.i64.wrap ((st.at' : Int) + 1) = ((st.at' + 1 : Nat) : Int) := by rw [IntWalk.i64_in _ (by omega)]; simp
 obtain ⟨W4, hW4⟩ : ∃ W, W = W3.setCell ⟨pb, 1, none⟩ (.int .i64 ((st.at' : Int) + 1)) := ⟨_, rfl⟩
 have HP4 : Hid (PaS W4 pb b c T { st with at' := st.at' + 1 }) := by rw [hW4]; exact HP3.out.setA (st.at' + 1)
 have HG4 : Hid (GrowA pb w W4) := by rw [hW4]; exact HG3.out.set 1 _
 have HR4 : Hid (PhZ W4 r) := by rw [hW4]; exact HR3.out.grow ((GrowA.refl _ _).set 1 _) hrp
 have HX4 : Hid (TkB W4 w2.heap.size #[.int .i64 3, .string us, .int .i64 un]) := by rw [hW4]; exact HX3.out.grow ((GrowA.refl _ _).set 1 _) hxp
 go_upto_region 7 with fail
 rw [← hW4]
 clear hW4 x1 f1 hl3 hx3 hr3 d0 d1 d2 HP3 HG3 HR3 HX3
 obtain ⟨d0, d1, d2⟩ := HX4.out.cells
 have hx4 := HX4.out.lt
 have hr4 := HR4.out.lt
 go_wp2_with (go_at_call 57; refine (CL.out _).mono ?_; rintro e w5 ⟨rfl, hb⟩; have HP5 : Hid (PaS w5 pb b c T { st with at' := st.at' + 1 }) := HP4.out.below hb; have HG5 : Hid (GrowA pb w w5) := HG4.out.below hb; have HR5 : Hid (PhZ w5 r) := HR4.out.below hb; have hr5 := HR5.out.lt; obtain ⟨⟨y0, y1, y2, y3, y4, y5, y6, y7, y8, y9, y10⟩, z0, z1, z2, z3, z4, z5, z6, z7, z8, z9, z10⟩ := HR5.out.cells; clear hb HP4 HG4 HR4)
 refine bodyPost_ret (v := .agg #[.int .i64 1, .int .i64 3, .int .i64 0, .string us, .string ⟨#[]⟩, .int .i64 0, .int .i64 0, .int .i64 0, .string ⟨#[]⟩, .slice none 0 0, .slice none 0 0]) (by simp [results, Tryz.results126, go_sem, y0, y1, y2, y3, y4, y5, y6, y7, y8, y9, y10]) rfl ⟨[.int .i64 1, .int .i64 3, .int .i64 0, .string us, .string ⟨#[]⟩, .int .i64 0, .int .i64 0, .int .i64 0, .string ⟨#[]⟩, .slice none 0 0, .slice none 0 0], ?_, rfl, ?_, ?_⟩
 · exact tre_ph0
 · (repeat (first | with_reducible refine PaS.setR ?_ hrp hrb _ _ | with_reducible refine PaS.allocI ?_ _ | exact HP5.out))
 · (repeat (first | with_reducible refine GrowA.setR ?_ HRW.out _ _ | with_reducible refine GrowA.alloc ?_ _ | exact HG5.out))
set_option maxHeartbeats 1600000 in
theorem noStep_dol {pb b c : Nat} {T : List Tok} {st : Pst} {us : ByteArray} {un : Int} (hT : T.length ≤ 200) (hat : st.at' ≤ 300) (hu : seeM T st 0 = ⟨4, us, un⟩) (hs : us.size ≤ 4000) : RunT pb b c T 126 #[.pointer (some ⟨pb, 0, none⟩)] st { st with at' := st.at' + 1 } (ph0 2 ⟨0, 0, ⟨#[]⟩⟩ us 0 0 0 ⟨#[]⟩) := by
 intro w h htb
 have HTB : Hid (RTab w pb) := htb
 clear htb
 have hpl := h.pl
 have hbl := h.bl
 go_enter Tryz.func126, Tryz.ntmps126
 go_upto_region 1 with fail
 obtain ⟨W1, hW1⟩ : ∃ W, W = w.alloc (.cells #[.int .i64 0, .int .i64 0, .int .i64 0, .string ⟨#[]⟩, .string ⟨#[]⟩, .int .i64 0, .int .i64 0, .int .i64 0, .string ⟨#[]⟩, .slice none 0 0, .slice none 0 0] 36) := ⟨_, rfl⟩
 have HG1 : Hid (GrowA pb w W1) := by rw [hW1]; exact (GrowA.refl _ _).alloc _
 have HP1 : Hid (PaS W1 pb b c T st) := by rw [hW1]; exact h.allocI _
 have HR1 : Hid (PhZ W1 w.heap.size) := by rw [hW1]; exact PhB.new w _
 rw [← hW1]
 obtain ⟨r, hr⟩ : ∃ r, r = w.heap.size := ⟨_, rfl⟩
 have HRW : Hid (w.heap.size ≤ r) := Nat.le_of_eq hr.symm
 have hrp : r ≠ pb := by omega
 have hrb : r ≠ b := by omega
 rw [← hr] at HR1 ⊢
 clear hW1 hr h hpl hbl
 go_upto_region 2 with (first
  | (go_at_call 65; (refine (see_lit HP1.out 0 (by omega) hT hat hu).mono ?_); rintro e w2 ⟨rfl, hb⟩; have HG2 := HidOf (HG1.out.below hb); have HP2 := HidOf (HP1.out.below hb); have HR2 := HidOf (HR1.out.below hb); have hxp : w2.heap.size ≠ pb := (by have := HP2.out.pl; omega); clear hb HP1 HG1 HR1))
 obtain ⟨W3, hW3⟩ : ∃ W, W = w2.alloc (.cells #[.int .i64 4, .string us, .int .i64 un] 41) := ⟨_, rfl⟩
 have HP3 : Hid (PaS W3 pb b c T st) := by rw [hW3]; exact HP2.out.allocI _
 have HG3 : Hid (GrowA pb w W3) := by rw [hW3]; exact HG2.out.alloc _
 have HR3 : Hid (PhZ W3 r) := by rw [hW3]; exact HR2.out.allocI _
 have HX3 : Hid (TkB W3 w2.heap.size #[.int .i64 4, .string us, .int .i64 un]) := by rw [hW3]; exact TkB.new w2 _
 rw [← hW3]
 clear hW3 HP2 HG2 HR2
 obtain ⟨d0, d1, d2⟩ := HX3.out.cells
 have hx3 := HX3.out.lt
 go_wp2_with (go_at_call 97; refine (text_yes HP3.out hT hat hu hs).mono ?_; rintro e w4 ⟨rfl, hp, hg⟩; have HP4 : Hid (PaS w4 pb b c T { st with at' := st.at' + 1 }) := hp; have HG4 : Hid (GrowA pb w w4) := HG3.out.trans hg; have HR4 : Hid (PhZ w4 r) := HR3.out.grow hg hrp; have hr4 := HR4.out.lt; obtain ⟨⟨y0, y1, y2, y3, y4, y5, y6, y7, y8, y9, y10⟩, z0, z1, z2, z3, z4, z5, z6, z7, z8, z9, z10⟩ := HR4.out.cells; clear hp hg HP3 HG3 HR3 HX3)
 refine bodyPost_ret (v := .agg #[.int .i64 2, .int .i64 0, .int .i64 0, .string ⟨#[]⟩, .string us, .int .i64 0, .int .i64 0, .int .i64 0, .string ⟨#[]⟩, .slice none 0 0, .slice none 0 0]) (by simp [results, Tryz.results126, go_sem, y0, y1, y2, y3, y4, y5, y6, y7, y8, y9, y10]) rfl ⟨[.int .i64 2, .int .i64 0, .int .i64 0, .string ⟨#[]⟩, .string us, .int .i64 0, .int .i64 0, .int .i64 0, .string ⟨#[]⟩, .slice none 0 0, .slice none 0 0], ?_, rfl, ?_, ?_⟩
 · exact tre_ph0
 · (repeat (first | with_reducible refine PaS.setR ?_ hrp hrb _ _ | with_reducible refine PaS.allocI ?_ _ | exact HP4.out))
 · (repeat (first | with_reducible refine GrowA.setR ?_ HRW.out _ _ | with_reducible refine GrowA.alloc ?_ _ | exact HG4.out))
open Go.RowKit
theorem cAt.get11 {w : World} {g o : Nat} {v0 v1 v2 v3 v4 v5 v6 v7 v8 v9 v10 : Value} (h : cAt w g o [v0, v1, v2, v3, v4, v5, v6, v7, v8, v9, v10]) : w.cell? ⟨g, o, none⟩ = some v0 ∧ w.cell? ⟨g, o + 1, none⟩ = some v1 ∧ w.cell? ⟨g, o + 2, none⟩ = some v2 ∧ w.cell? ⟨g, o + 3, none⟩ = some v3 ∧ w.cell? ⟨g, o + 4, none⟩ = some v4 ∧ w.cell? ⟨g, o + 5, none⟩ = some v5 ∧ w.cell? ⟨g, o + 6, none⟩ = some v6 ∧ w.cell? ⟨g, o + 7, none⟩ = some v7 ∧ w.cell? ⟨g, o + 8, none⟩ = some v8 ∧ w.cell? ⟨g, o + 9, none⟩ = some v9 ∧ w.cell? ⟨g, o + 10, none⟩ = some v10 :=
 ⟨h 0 (by simp), h 1 (by simp), h 2 (by simp), h 3 (by simp), h 4 (by simp), h 5 (by simp), h 6 (by simp), h 7 (by simp), h 8 (by simp), h 9 (by simp), h 10 (by simp)⟩
theorem cAt.below {w w' : World} {g o : Nat} {vs : List Value} (h : cAt w g o vs) (hb : Below w.heap.size w w') (hg : g < w.heap.size) : cAt w' g o vs := h.keep (hb.block g hg)
def SameOk (p : Ph) : Prop := ∀ (w : World) (u v : List Value), Tre w 0 p u → Tre w 0 p v → Calls Tryz.prog 13 #[.agg u.toArray, .agg v.toArray] w fun e w' => e = .returned (.bool true) ∧ Below w.heap.size w w'
def Row11 (w : World) (a : Option Addr) (n : Nat) (A : Nat → Ph) : Prop := 0 < n → ∃ g o, a = some ⟨g, o, none⟩ ∧ g < w.heap.size ∧ ∀ i, i < n → ∃ u, cAt w g (o + i * 11) u ∧ Tre w 0 (A i) u
theorem Row11.below {w w' : World} {a : Option Addr} {n : Nat} {A : Nat → Ph} (h : Row11 w a n A) (hb : Below w.heap.size w w') : Row11 w' a n A := fun hn => by
 obtain ⟨g, o, e, h1, h2⟩ := h hn
 refine ⟨g, o, e, Nat.lt_of_lt_of_le h1 hb.size, fun i hi => ?_⟩
 obtain ⟨u, q1, q2⟩ := h2 i hi
 exact ⟨u, q1.below hb h1, q2.below hb⟩
set_option maxHeartbeats 3200000 in
theorem equalF_is (n c c' : Nat) (a a' : Option Addr) (A : Nat → Ph) (w : World) (h : Row11 w a n A) (h' : Row11 w a' n A) (hA : ∀ i, i < n → SameOk (A i)) (hc : n ≤ c) (hc' : n ≤ c') (hm : n ≤ maxLen) :
 Calls Tryz.prog 26 #[.slice a n c, .slice a' n c', .func (.func 13) #[] #[]] w fun e w' => e = .returned (.bool true) ∧ Below w.heap.size w w' := by
 have HR : Hid (∀ k W, k < n → Below w.heap.size w W → ∃ g o g' o' u u', a = some ⟨g, o, none⟩ ∧ a' = some ⟨g', o', none⟩ ∧ g' < W.heap.size ∧ cAt W g (o + k * 11) u ∧ cAt W g' (o' + k * 11) u' ∧ Tre W 0 (A k) u ∧ Tre W 0 (A k) u') := fun k W hk hb => by
  obtain ⟨g, o, e1, e2, e3⟩ := h (by omega)
  obtain ⟨g', o', f1, f2, f3⟩ := h' (by omega)
  obtain ⟨u, e4, e5⟩ := e3 k hk
  obtain ⟨u', f4, f5⟩ := f3 k hk
  exact ⟨g, o, g', o', u, u', e1, f1, Nat.lt_of_lt_of_le f2 hb.size, e4.below hb e2, f4.below hb f2, e5.below hb, f5.below hb⟩
 have HA := HidOf hA
 unfold maxLen at hm
 clear h h' hA
 go_enter Tryz.func26, Tryz.ntmps26
 go_wp2
 go_loopw [17] (fun i wr => ∃ k : Nat, k ≤ n ∧ i = .int .i64 k ∧ Below w.heap.size w wr) (fun i _ => n - (intOf i).toNat)
 case atStart => exact ⟨0, Nat.zero_le _, rfl, Below.refl _ _⟩
 case round =>
  obtain ⟨k, hk, rfl, hwr⟩ := hrel
  have HW := HidOf hwr
  by_cases hlt : k < n
  · obtain ⟨g, o, g', o', u, u', rfl, rfl, hg2, e1, e2, hx, hy⟩ := HR.out k wr hlt hwr
    have HG2 := HidOf hg2
    clear hg2
    have CS : Hid (∀ W, Below wr.heap.size wr W → Calls Tryz.prog 13 #[.agg u.toArray, .agg u'.toArray] W fun e w' => e = .returned (.bool true) ∧ Below W.heap.size W w') := fun W hb => HA.out k hlt W u u' (hx.below hb) (hy.below hb)
    obtain ⟨k0_1, k1_1, k2_1, k5_1, k6_1, k7_1, s3_1, s4_1, s8_1, a9_1, a10_1, l9_1, c9_1, l10_1, c10_1, rfl⟩ := hx.form
    obtain ⟨k0_2, k1_2, k2_2, k5_2, k6_2, k7_2, s3_2, s4_2, s8_2, a9_2, a10_2, l9_2, c9_2, l10_2, c10_2, rfl⟩ := hy.form
    obtain ⟨x0, x1, x2, x3, x4, x5, x6, x7, x8, x9, x10⟩ := e1.get11
    have hki : (k : Int) < (n : Int) := by omega
    have HE2 : Hid (∀ o, cAt (wr.alloc o) g' (o' + k * 11) [.int .i64 k0_2, .int .i64 k1_2, .int .i64 k2_2, .string s3_2, .string s4_2, .int .i64 k5_2, .int .i64 k6_2, .int .i64 k7_2, .string s8_2, .slice a9_2 l9_2 c9_2, .slice a10_2 l10_2 c10_2]) := fun o => e2.below ((Below.refl _ _).alloc (Nat.le_refl _) _) HG2.out
    clear hwr hx hy e1 e2
    go_upto_region 6 with fail
    obtain ⟨W1, hW1⟩ : ∃ W, W = wr.alloc (.cells #[.int .i64 k0_1, .int .i64 k1_1, .int .i64 k2_1, .string s3_1, .string s4_1, .int .i64 k5_1, .int .i64 k6_1, .int .i64 k7_1, .string s8_1, .slice a9_1 l9_1 c9_1, .slice a10_1 l10_1 c10_1] 36) := ⟨_, rfl⟩
    have HB1 : Hid (Below wr.heap.size wr W1) := by rw [hW1]; exact (Below.refl _ _).alloc (Nat.le_refl _) _
    have HP1 : Hid (PhB W1 wr.heap.size #[.int .i64 k0_1, .int .i64 k1_1, .int .i64 k2_1, .string s3_1, .string s4_1, .int .i64 k5_1, .int .i64 k6_1, .int .i64 k7_1, .string s8_1, .slice a9_1 l9_1 c9_1, .slice a10_1 l10_1 c10_1]) := by rw [hW1]; exact PhB.new _ _
    obtain ⟨y0, y1, y2, y3, y4, y5, y6, y7, y8, y9, y10⟩ := (show cAt W1 g' (o' + k * 11) [.int .i64 k0_2, .int .i64 k1_2, .int .i64 k2_2, .string s3_2, .string s4_2, .int .i64 k5_2, .int .i64 k6_2, .int .i64 k7_2, .string s8_2, .slice a9_2 l9_2 c9_2, .slice a10_2 l10_2 c10_2] by rw [hW1]; exact HE2.out _).get11
    rw [← hW1]
    clear hW1 x0 x1 x2 x3 x4 x5 x6 x7 x8 x9 x10 HE2
    go_upto_region 7 with fail
    obtain ⟨W2, hW2⟩ : ∃ W, W = W1.alloc (.cells #[.int .i64 k0_2, .int .i64 k1_2, .int .i64 k2_2, .string s3_2, .string s4_2, .int .i64 k5_2, .int .i64 k6_2, .int .i64 k7_2, .string s8_2, .slice a9_2 l9_2 c9_2, .slice a10_2 l10_2 c10_2] 36) := ⟨_, rfl⟩
    have HB2 : Hid (Below wr.heap.size wr W2) := by rw [hW2]; exact HB1.out.alloc HB1.out.size _
    obtain ⟨⟨x0, x1, x2, x3, x4, x5, x6, x7, x8, x9, x10⟩, _⟩ := (show PhB W2 wr.heap.size #[.int .i64 k0_1, .int .i64 k1_1, .int .i64 k2_1, .string s3_1, .string s4_1, .int .i64 k5_1, .int .i64 k6_1, .int .i64 k7_1, .string s8_1, .slice a9_1 l9_1 c9_1, .slice a10_1 l10_1 c10_1] by rw [hW2]; exact HP1.out.allocI _).cells
    obtain ⟨⟨z0, z1, z2, z3, z4, z5, z6, z7, z8, z9, z10⟩, _⟩ := (show PhB W2 W1.heap.size #[.int .i64 k0_2, .int .i64 k1_2, .int .i64 k2_2, .string s3_2, .string s4_2, .int .i64 k5_2, .int .i64 k6_2, .int .i64 k7_2, .string s8_2, .slice a9_2 l9_2 c9_2, .slice a10_2 l10_2 c10_2] by rw [hW2]; exact PhB.new _ _).cells
    rw [← hW2]
    clear hW2 y0 y1 y2 y3 y4 y5 y6 y7 y8 y9 y10 HP1 HB1
    go_wp2_with (go_at_call 13; (first | refine (CS.out _ HB2.out).mono ?_ | refine (CS.out _ HB2.out.drew).mono ?_); rintro e w3 ⟨rfl, hb3⟩; have HB3 : Hid (Below wr.heap.size wr w3) := (by first | exact HB2.out.trans (hb3.mono HB2.out.size) | exact HB2.out.drew.trans (hb3.mono HB2.out.drew.size)); clear hb3)
    go_roundw
    case rel => exact ⟨k + 1, by omega, by go_num, HW.out.trans (HB3.out.mono HW.out.size)⟩
    case measure => simp [intOf]; omega
  · have hki : ¬ ((k : Int) < (n : Int)) := by omega
    clear hwr
    go_wp2
    go_ret
    exact ⟨rfl, HW.out⟩
open Go.RowKit
theorem cAt.get15 {w : World} {g o : Nat} {v0 v1 v2 v3 v4 v5 v6 v7 v8 v9 v10 v11 v12 v13 v14 : Value} (h : cAt w g o [v0, v1, v2, v3, v4, v5, v6, v7, v8, v9, v10, v11, v12, v13, v14]) : w.cell? ⟨g, o, none⟩ = some v0 ∧ w.cell? ⟨g, o + 1, none⟩ = some v1 ∧ w.cell? ⟨g, o + 2, none⟩ = some v2 ∧ w.cell? ⟨g, o + 3, none⟩ = some v3 ∧ w.cell? ⟨g, o + 4, none⟩ = some v4 ∧ w.cell? ⟨g, o + 5, none⟩ = some v5 ∧ w.cell? ⟨g, o + 6, none⟩ = some v6 ∧ w.cell? ⟨g, o + 7, none⟩ = some v7 ∧ w.cell? ⟨g, o + 8, none⟩ = some v8 ∧ w.cell? ⟨g, o + 9, none⟩ = some v9 ∧ w.cell? ⟨g, o + 10, none⟩ = some v10 ∧ w.cell? ⟨g, o + 11, none⟩ = some v11 ∧ w.cell? ⟨g, o + 12, none⟩ = some v12 ∧ w.cell? ⟨g, o + 13, none⟩ = some v13 ∧ w.cell? ⟨g, o + 14, none⟩ = some v14 :=
 ⟨h 0 (by simp), h 1 (by simp), h 2 (by simp), h 3 (by simp), h 4 (by simp), h 5 (by simp), h 6 (by simp), h 7 (by simp), h 8 (by simp), h 9 (by simp), h 10 (by simp), h 11 (by simp), h 12 (by simp), h 13 (by simp), h 14 (by simp)⟩
theorem blk15 {w : World} {b : Nat} {T : TypeId} {v0 v1 v2 v3 v4 v5 v6 v7 v8 v9 v10 v11 v12 v13 v14 : Value} (h : w.heap[b]? = some (.cells #[v0, v1, v2, v3, v4, v5, v6, v7, v8, v9, v10, v11, v12, v13, v14] T)) : w.cell? ⟨b, 0, none⟩ = some v0 ∧ w.cell? ⟨b, 1, none⟩ = some v1 ∧ w.cell? ⟨b, 2, none⟩ = some v2 ∧ w.cell? ⟨b, 3, none⟩ = some v3 ∧ w.cell? ⟨b, 4, none⟩ = some v4 ∧ w.cell? ⟨b, 5, none⟩ = some v5 ∧ w.cell? ⟨b, 6, none⟩ = some v6 ∧ w.cell? ⟨b, 7, none⟩ = some v7 ∧ w.cell? ⟨b, 8, none⟩ = some v8 ∧ w.cell? ⟨b, 9, none⟩ = some v9 ∧ w.cell? ⟨b, 10, none⟩ = some v10 ∧ w.cell? ⟨b, 11, none⟩ = some v11 ∧ w.cell? ⟨b, 12, none⟩ = some v12 ∧ w.cell? ⟨b, 13, none⟩ = some v13 ∧ w.cell? ⟨b, 14, none⟩ = some v14 := by
 simp [World.cell?, h]
set_option maxHeartbeats 12800000 in
theorem same_mk {k : Int} {it : It} {nm : ByteArray} {n ax tk : Int} {tn : ByteArray} {na : Nat} {A : Nat → Ph} {nc : Nat} {CK : Nat → Int} {CN CA : Nat → ByteArray} {CD : Nat → Bool} {CE : Nat → Ph} (hA : ∀ i, i < na → SameOk (A i)) (hC : ∀ i, i < nc → SameOk (CE i)) : SameOk (.mk k it nm n ax tk tn na A nc CK CN CA CD CE) := by
 intro w u v hu hv
 obtain ⟨a9, c9, a10, c10, rfl, q1, q2, q3, q4, q5, q6⟩ := hu
 obtain ⟨b9, d9, b10, d10, rfl, p1, p2, p3, p4, p5, p6⟩ := hv
 have CE1 : Hid (∀ W, Below w.heap.size w W → Calls Tryz.prog 26 #[.slice a9 na c9, .slice b9 na d9, .func (.func 13) #[] #[]] W fun e w' => e = .returned (.bool true) ∧ Below W.heap.size W w') := fun W hb =>
  equalF_is na c9 d9 a9 b9 A W (Row11.below (fun hn => by obtain ⟨g, o, e1, e2, e3⟩ := q5 hn; exact ⟨g, o, e1, e2.2, e3⟩) hb) (Row11.below (fun hn => by obtain ⟨g, o, e1, e2, e3⟩ := p5 hn; exact ⟨g, o, e1, e2.2, e3⟩) hb) hA q1 p1 (Nat.le_trans q1 q3)
 have HR : Hid (∀ i W, i < nc → Below w.heap.size w W → ∃ g o g' o' u u', a10 = some ⟨g, o, none⟩ ∧ b10 = some ⟨g', o', none⟩ ∧ g' < W.heap.size ∧ cAt W g (o + i * 15) ([.int .i64 (CK i), .string (CN i), .string (CA i), .bool (CD i)] ++ u) ∧ cAt W g' (o' + i * 15) ([.int .i64 (CK i), .string (CN i), .string (CA i), .bool (CD i)] ++ u') ∧ Tre W 0 (CE i) u ∧ Tre W 0 (CE i) u') := fun i W hi hb => by
  obtain ⟨g, o, e1, e2, e3⟩ := q6 (by omega)
  obtain ⟨g', o', f1, f2, f3⟩ := p6 (by omega)
  obtain ⟨u, e4, e5⟩ := e3 i hi
  obtain ⟨u', f4, f5⟩ := f3 i hi
  exact ⟨g, o, g', o', u, u', e1, f1, Nat.lt_of_lt_of_le f2.2 hb.size, e4.below hb e2.2, f4.below hb f2.2, Tre.below (w := w) e5 hb, Tre.below (w := w) f5 hb⟩
 have HC := HidOf hC
 have hcm : nc ≤ 9223372036854775807 := by unfold maxLen at q4; omega
 have ham : na ≤ 9223372036854775807 := by unfold maxLen at q3; omega
 clear q1 q2 q3 q4 q5 q6 p1 p2 p3 p4 p5 p6 hA hC
 show Calls Tryz.prog 13 #[.agg #[.int .i64 k, .int .i64 it.kind, .int .i64 it.n, .string it.s, .string nm, .int .i64 n, .int .i64 ax, .int .i64 tk, .string tn, .slice a9 na c9, .slice a10 nc c10], .agg #[.int .i64 k, .int .i64 it.kind, .int .i64 it.n, .string it.s, .string nm, .int .i64 n, .int .i64 ax, .int .i64 tk, .string tn, .slice b9 na d9, .slice b10 nc d10]] w _
 go_enter Tryz.func13, Tryz.ntmps13
 go_upto_region 1 with fail
 obtain ⟨W2, hW2⟩ : ∃ W, W = (w.alloc (.cells #[.int .i64 k, .int .i64 it.kind, .int .i64 it.n, .string it.s, .string nm, .int .i64 n, .int .i64 ax, .int .i64 tk, .string tn, .slice a9 na c9, .slice a10 nc c10] 36)).alloc (.cells #[.int .i64 k, .int .i64 it.kind, .int .i64 it.n, .string it.s, .string nm, .int .i64 n, .int .i64 ax, .int .i64 tk, .string tn, .slice b9 na d9, .slice b10 nc d10] 36) := ⟨_, rfl⟩
 have HB2 : Hid (Below w.heap.size w W2) := by rw [hW2]; exact ((Below.refl _ _).alloc (Nat.le_refl _) _).alloc (by simp) _
 have HU2 : Hid (PhB W2 w.heap.size #[.int .i64 k, .int .i64 it.kind, .int .i64 it.n, .string it.s, .string nm, .int .i64 n, .int .i64 ax, .int .i64 tk, .string tn, .slice a9 na c9, .slice a10 nc c10]) := by rw [hW2]; exact (PhB.new _ _).allocI _
 have HV2 : Hid (PhB W2 (w.heap.size + 1) #[.int .i64 k, .int .i64 it.kind, .int .i64 it.n, .string it.s, .string nm, .int .i64 n, .int .i64 ax, .int .i64 tk, .string tn, .slice b9 na d9, .slice b10 nc d10]) := by
  have h := PhB.new (w.alloc (.cells #[.int .i64 k, .int .i64 it.kind, .int .i64 it.n, .string it.s, .string nm, .int .i64 n, .int .i64 ax, .int .i64 tk, .string tn, .slice a9 na c9, .slice a10 nc c10] 36)) #[.int .i64 k, .int .i64 it.kind, .int .i64 it.n, .string it.s, .string nm, .int .i64 n, .int .i64 ax, .int .i64 tk, .string tn, .slice b9 na d9, .slice b10 nc d10]
  rw [show (w.alloc (.cells #[.int .i64 k, .int .i64 it.kind, .int .i64 it.n, .string it.s, .string nm, .int .i64 n, .int .i64 ax, .int .i64 tk, .string tn, .slice a9 na c9, .slice a10 nc c10] 36)).heap.size = w.heap.size + 1 by simp] at h
  rw [hW2]; exact h
 rw [← hW2]
 clear hW2
 obtain ⟨⟨x0, x1, x2, x3, x4, x5, x6, x7, x8, x9, x10⟩, _⟩ := HU2.out.cells
 obtain ⟨⟨y0, y1, y2, y3, y4, y5, y6, y7, y8, y9, y10⟩, _⟩ := HV2.out.cells
 go_wp2
 clear x0 x1 x2 x3 x4 x5 x6 x7 x8 x9 x10 y0 y1 y2 y3 y4 y5 y6 y7 y8 y9 y10
 go_loopw [60] (fun i wr => ∃ j : Nat, j ≤ nc ∧ i = .int .i64 j ∧ Below W2.heap.size W2 wr) (fun i _ => nc - (intOf i).toNat)
 case atStart => exact ⟨0, Nat.zero_le _, rfl, Below.refl _ _⟩
 case round =>
  obtain ⟨j, hj, rfl, hwr⟩ := hrel
  have HW := HidOf hwr
  have HBW : Hid (Below w.heap.size w wr) := HB2.out.trans (hwr.mono HB2.out.size)
  clear hwr
  have HUG : Hid (∀ W, Below wr.heap.size wr W → PhB W w.heap.size _) := fun W h => (HU2.out.below HW.out).below h
  have HVG : Hid (∀ W, Below wr.heap.size wr W → PhB W (w.heap.size + 1) _) := fun W h => (HV2.out.below HW.out).below h
  obtain ⟨⟨x0, x1, x2, x3, x4, x5, x6, x7, x8, x9, x10⟩, _⟩ := (HUG.out wr (Below.refl _ _)).cells
  obtain ⟨⟨y0, y1, y2, y3, y4, y5, y6, y7, y8, y9, y10⟩, _⟩ := (HVG.out wr (Below.refl _ _)).cells
  by_cases hlt : j < nc
  · obtain ⟨g, o, g', o', u, u', rfl, rfl, hg2, e1, e2, hx, hy⟩ := HR.out j wr hlt HBW.out
    have HG2 := HidOf hg2
    clear hg2
    have CS : Hid (∀ W, Below wr.heap.size wr W → Calls Tryz.prog 13 #[.agg u.toArray, .agg u'.toArray] W fun e w' => e = .returned (.bool true) ∧ Below W.heap.size W w') := fun W hb => HC.out j hlt W u u' (hx.below hb) (hy.below hb)
    obtain ⟨k0_1, k1_1, k2_1, k5_1, k6_1, k7_1, s3_1, s4_1, s8_1, a9_1, a10_1, l9_1, c9_1, l10_1, c10_1, rfl⟩ := hx.form
    obtain ⟨k0_2, k1_2, k2_2, k5_2, k6_2, k7_2, s3_2, s4_2, s8_2, a9_2, a10_2, l9_2, c9_2, l10_2, c10_2, rfl⟩ := hy.form
    obtain ⟨m0, m1, m2, m3, m4, m5, m6, m7, m8, m9, m10, m11, m12, m13, m14⟩ := (show cAt wr g (o + j * 15) [.int .i64 (CK j), .string (CN j), .string (CA j), .bool (CD j), .int .i64 k0_1, .int .i64 k1_1, .int .i64 k2_1, .string s3_1, .string s4_1, .int .i64 k5_1, .int .i64 k6_1, .int .i64 k7_1, .string s8_1, .slice a9_1 l9_1 c9_1, .slice a10_1 l10_1 c10_1] from e1).get15
    have HE2 : Hid (∀ O, cAt (wr.alloc O) g' (o' + j * 15) [.int .i64 (CK j), .string (CN j), .string (CA j), .bool (CD j), .int .i64 k0_2, .int .i64 k1_2, .int .i64 k2_2, .string s3_2, .string s4_2, .int .i64 k5_2, .int .i64 k6_2, .int .i64 k7_2, .string s8_2, .slice a9_2 l9_2 c9_2, .slice a10_2 l10_2 c10_2]) := fun O => (show cAt wr g' (o' + j * 15) [.int .i64 (CK j), .string (CN j), .string (CA j), .bool (CD j), .int .i64 k0_2, .int .i64 k1_2, .int .i64 k2_2, .string s3_2, .string s4_2, .int .i64 k5_2, .int .i64 k6_2, .int .i64 k7_2, .string s8_2, .slice a9_2 l9_2 c9_2, .slice a10_2 l10_2 c10_2] from e2).below ((Below.refl _ _).alloc (Nat.le_refl _) _) HG2.out
    have hji : (j : Int) < (nc : Int) := by omega
    clear hx hy e1 e2
    go_upto_region 7 with fail
    obtain ⟨W3, hW3⟩ : ∃ W, W = wr.alloc (.cells #[.int .i64 (CK j), .string (CN j), .string (CA j), .bool (CD j), .int .i64 k0_1, .int .i64 k1_1, .int .i64 k2_1, .string s3_1, .string s4_1, .int .i64 k5_1, .int .i64 k6_1, .int .i64 k7_1, .string s8_1, .slice a9_1 l9_1 c9_1, .slice a10_1 l10_1 c10_1] 74) := ⟨_, rfl⟩
    have HB3 : Hid (Below wr.heap.size wr W3) := by rw [hW3]; exact (Below.refl _ _).alloc (Nat.le_refl _) _
    have HP3 : Hid (W3.heap[wr.heap.size]? = some (.cells #[.int .i64 (CK j), .string (CN j), .string (CA j), .bool (CD j), .int .i64 k0_1, .int .i64 k1_1, .int .i64 k2_1, .string s3_1, .string s4_1, .int .i64 k5_1, .int .i64 k6_1, .int .i64 k7_1, .string s8_1, .slice a9_1 l9_1 c9_1, .slice a10_1 l10_1 c10_1] 74)) := by rw [hW3]; exact heap_alloc_new _ _
    clear x0 x1 x2 x3 x4 x5 x6 x7 x8 x9 x10 y0 y1 y2 y3 y4 y5 y6 y7 y8 y9 y10 m0 m1 m2 m3 m4 m5 m6 m7 m8 m9 m10 m11 m12 m13 m14
    obtain ⟨m0, m1, m2, m3, m4, m5, m6, m7, m8, m9, m10, m11, m12, m13, m14⟩ := (show cAt W3 g' (o' + j * 15) [.int .i64 (CK j), .string (CN j), .string (CA j), .bool (CD j), .int .i64 k0_2, .int .i64 k1_2, .int .i64 k2_2, .string s3_2, .string s4_2, .int .i64 k5_2, .int .i64 k6_2, .int .i64 k7_2, .string s8_2, .slice a9_2 l9_2 c9_2, .slice a10_2 l10_2 c10_2] by rw [hW3]; exact HE2.out _).get15
    obtain ⟨⟨y0, y1, y2, y3, y4, y5, y6, y7, y8, y9, y10⟩, _⟩ := (HVG.out W3 HB3.out).cells
    rw [← hW3]
    clear hW3 HE2
    go_upto_region 8 with fail
    obtain ⟨W4, hW4⟩ : ∃ W, W = W3.alloc (.cells #[.int .i64 (CK j), .string (CN j), .string (CA j), .bool (CD j), .int .i64 k0_2, .int .i64 k1_2, .int .i64 k2_2, .string s3_2, .string s4_2, .int .i64 k5_2, .int .i64 k6_2, .int .i64 k7_2, .string s8_2, .slice a9_2 l9_2 c9_2, .slice a10_2 l10_2 c10_2] 74) := ⟨_, rfl⟩
    have HB4 : Hid (Below wr.heap.size wr W4) := by rw [hW4]; exact HB3.out.alloc HB3.out.size _
    clear y0 y1 y2 y3 y4 y5 y6 y7 y8 y9 y10 m0 m1 m2 m3 m4 m5 m6 m7 m8 m9 m10 m11 m12 m13 m14
    obtain ⟨m0, m1, m2, m3, m4, m5, m6, m7, m8, m9, m10, m11, m12, m13, m14⟩ := blk15 (show W4.heap[wr.heap.size]? = some (.cells #[.int .i64 (CK j), .string (CN j), .string (CA j), .bool (CD j), .int .i64 k0_1, .int .i64 k1_1, .int .i64 k2_1, .string s3_1, .string s4_1, .int .i64 k5_1, .int .i64 k6_1, .int .i64 k7_1, .string s8_1, .slice a9_1 l9_1 c9_1, .slice a10_1 l10_1 c10_1] 74) by rw [hW4]; exact (Below.heap_alloc W3 _ _ (Array.getElem?_eq_some_iff.1 HP3.out).1).trans HP3.out)
    obtain ⟨p0, p1, p2, p3, p4, p5, p6, p7, p8, p9, p10, p11, p12, p13, p14⟩ := blk15 (show W4.heap[W3.heap.size]? = some (.cells #[.int .i64 (CK j), .string (CN j), .string (CA j), .bool (CD j), .int .i64 k0_2, .int .i64 k1_2, .int .i64 k2_2, .string s3_2, .string s4_2, .int .i64 k5_2, .int .i64 k6_2, .int .i64 k7_2, .string s8_2, .slice a9_2 l9_2 c9_2, .slice a10_2 l10_2 c10_2] 74) by rw [hW4]; exact heap_alloc_new _ _)
    rw [← hW4]
    clear hW4 HP3 HB3
    go_wp2_with (go_at_call 13; refine (CS.out _ HB4.out).mono ?_; rintro e w5 ⟨rfl, hb5⟩; have HB5 : Hid (Below wr.heap.size wr w5) := HB4.out.trans (hb5.mono HB4.out.size); clear hb5)
    go_roundw
    case rel => exact ⟨j + 1, by omega, by go_num, HW.out.trans (HB5.out.mono HW.out.size)⟩
    case measure => simp [intOf]; omega
  · have hji : ¬ ((j : Int) < (nc : Int)) := by omega
    go_wp2_with (go_at_call 26; refine (CE1.out _ HBW.out).mono ?_; rintro e w5 ⟨rfl, hb5⟩; have HB5 : Hid (Below w.heap.size w w5) := HBW.out.trans (hb5.mono HBW.out.size); clear hb5)
    go_ret
    exact ⟨rfl, HB5.out⟩
theorem same_ok : ∀ p : Ph, SameOk p := by
 intro p
 induction p with
 | no => intro w u v hu hv; exact hu.elim
 | mk k it nm n ax tk tn na A nc CK CN CA CD CE ihA ihC => exact same_mk (fun i _ => ihA i) (fun i _ => ihC i)
end Go.Proofs.YtbnlekhjgkojlaaGreatDoor
