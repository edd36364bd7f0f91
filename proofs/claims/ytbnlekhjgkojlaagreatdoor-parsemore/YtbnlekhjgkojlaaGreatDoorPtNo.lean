import Derived.Test.YtbnlekhjgkojlaaGreatDoorLaidQ
import Derived.Test.YtbnlekhjgkojlaaGreatDoorPtMake
import Derived.Test.YtbnlekhjgkojlaaGreatDoorPkPick
import Derived.Shelf.Strconv.Clone
set_option linter.unusedVariables false
namespace Go.Proofs.YtbnlekhjgkojlaaGreatDoor
set_option maxRecDepth 100000
open Go.RowKit
def RTab (w : World) (pb : Nat) : Prop := OpTab w ∧ KtTab w ∧ AxTab w ∧ 5 ≠ pb ∧ 9 ≠ pb ∧ 8 ≠ pb
theorem RTab.grow {w w' : World} {pb : Nat} (h : RTab w pb) (hg : GrowA pb w w') : RTab w' pb := ⟨h.1.grow hg h.2.2.2.1, h.2.1.grow hg h.2.2.2.2.1, h.2.2.1.grow hg h.2.2.2.2.2, h.2.2.2⟩
def RunT (pb b c : Nat) (T : List Tok) (f : Nat) (args : Array Value) (st st' : Pst) (p : Ph) : Prop := ∀ (w : World), PaS w pb b c T st → RTab w pb → Calls Tryz.prog f args w fun e w' => ∃ v, Tre w' w.heap.size p v ∧ e = .returned (.agg v.toArray) ∧ PaS w' pb b c T st' ∧ GrowA pb w w'
def RunL (pb b c : Nat) (T : List Tok) (f : Nat) (st st' : Pst) (n : Nat) (A : Nat → Ph) : Prop := ∀ (w : World), PaS w pb b c T st → RTab w pb → Calls Tryz.prog f #[.pointer (some ⟨pb, 0, none⟩)] w fun e w' => ∃ v, Phs w' w.heap.size n A v ∧ e = .returned v ∧ PaS w' pb b c T st' ∧ GrowA pb w w'
theorem RunT.use {pb b c : Nat} {T : List Tok} {f : Nat} {args : Array Value} {st st' : Pst} {p : Ph} (h : RunT pb b c T f args st st' p) {w W : World} {r0 : Nat} (ht : RTab w pb) (hp : PaS W pb b c T st) (hg : GrowA pb w W) (hl : r0 < W.heap.size) :
 Calls Tryz.prog f args W fun e w' => ∃ lo v, (r0 < lo ∧ pb < lo ∧ lo ≤ w'.heap.size) ∧ Tre w' lo p v ∧ e = .returned (.agg v.toArray) ∧ PaS w' pb b c T st' ∧ GrowA pb W w' :=
 (h W hp (ht.grow hg)).mono fun e w' ⟨v, h1, h2, h3, h4⟩ => ⟨W.heap.size, v, ⟨hl, hp.pl, h4.1⟩, h1, h2, h3, h4⟩
theorem RunL.use {pb b c : Nat} {T : List Tok} {f : Nat} {st st' : Pst} {n : Nat} {A : Nat → Ph} (h : RunL pb b c T f st st' n A) {w W : World} {r0 : Nat} (ht : RTab w pb) (hp : PaS W pb b c T st) (hg : GrowA pb w W) (hl : r0 < W.heap.size) :
 Calls Tryz.prog f #[.pointer (some ⟨pb, 0, none⟩)] W fun e w' => ∃ lo v, (r0 < lo ∧ pb < lo ∧ lo ≤ w'.heap.size) ∧ Phs w' lo n A v ∧ e = .returned v ∧ PaS w' pb b c T st' ∧ GrowA pb W w' :=
 (h W hp (ht.grow hg)).mono fun e w' ⟨v, h1, h2, h3, h4⟩ => ⟨W.heap.size, v, ⟨hl, hp.pl, h4.1⟩, h1, h2, h3, h4⟩
theorem Phs.below {w w' : World} {lo na : Nat} {A : Nat → Ph} {v : Value} (h : Phs w lo na A v) (hb : Below w.heap.size w w') : Phs w' lo na A v := by
 obtain ⟨a, c, h1, h2, h2', h3⟩ := h
 refine ⟨a, c, h1, h2, h2', fun hn => ?_⟩
 obtain ⟨g, q1, q2, q3⟩ := h3 hn
 refine ⟨g, q1, ⟨q2.1, Nat.lt_of_lt_of_le q2.2 hb.size⟩, fun i hi => ?_⟩
 obtain ⟨u, r1, r2⟩ := q3 i hi
 exact ⟨u, r1.keep (hb.block g q2.2), r2.below hb⟩
def TkB (w : World) (x : Nat) (v : Array Value) : Prop := w.heap[x]? = some (.cells v 41)
theorem TkB.lt {w : World} {r : Nat} {v : Array Value} (h : TkB w r v) : r < w.heap.size := (Array.getElem?_eq_some_iff.1 h).1
theorem TkB.new (w : World) (v : Array Value) : TkB (w.alloc (.cells v 41)) w.heap.size v := heap_alloc_new _ _
theorem TkB.grow {w w' : World} {pb r : Nat} {v : Array Value} (h : TkB w r v) (hg : GrowA pb w w') (hr : r ≠ pb) : TkB w' r v := (hg.2.2.2.2 r h.lt hr).trans h
theorem TkB.below {w w' : World} {r : Nat} {v : Array Value} (h : TkB w r v) (hb : Below w.heap.size w w') : TkB w' r v := (hb.block r h.lt).trans h
theorem TkB.allocI {w : World} {r : Nat} {v : Array Value} (h : TkB w r v) (o : Obj) : TkB (w.alloc o) r v := h.below ((Below.refl _ _).alloc (Nat.le_refl _) o)
theorem TkB.cells {w : World} {r : Nat} {k n : Int} {s : ByteArray} (h : TkB w r #[.int .i64 k, .string s, .int .i64 n]) : w.cell? ⟨r, 0, none⟩ = some (.int .i64 k) ∧ w.cell? ⟨r, 1, none⟩ = some (.string s) ∧ w.cell? ⟨r, 2, none⟩ = some (.int .i64 n) := by
 unfold TkB at h
 refine ⟨?_, ?_, ?_⟩ <;> simp [World.cell?, h]
theorem PhB.put {w : World} {r : Nat} {y0 y1 y2 y3 y4 y5 y6 y7 y8 y9 y10 : Value} (h : PhB w r #[y0, y1, y2, y3, y4, y5, y6, y7, y8, y9, y10]) {x0 x1 x2 x3 x4 x5 x6 x7 x8 x9 x10 : Value} : PhB (((((((((((w.setCell ⟨r, 0, none⟩ x0).setCell ⟨r, 1, none⟩ x1).setCell ⟨r, 2, none⟩ x2).setCell ⟨r, 3, none⟩ x3).setCell ⟨r, 4, none⟩ x4).setCell ⟨r, 5, none⟩ x5).setCell ⟨r, 6, none⟩ x6).setCell ⟨r, 7, none⟩ x7).setCell ⟨r, 8, none⟩ x8).setCell ⟨r, 9, none⟩ x9).setCell ⟨r, 10, none⟩ x10) r #[x0, x1, x2, x3, x4, x5, x6, x7, x8, x9, x10] := by
 unfold PhB at h ⊢
 simp [World.setCell, Array.getElem?_modify, h]
theorem PhB.setAt {w : World} {r : Nat} {v : Array Value} (h : PhB w r v) (k : Nat) (u : Value) : PhB (w.setCell ⟨r, k, none⟩ u) r (v.setIfInBounds k u) := by
 unfold PhB at h ⊢
 simp [World.setCell, Array.getElem?_modify, h]
theorem PhB.setO {w : World} {r x : Nat} {v : Array Value} (h : PhB w r v) (hn : r ≠ x) (k : Nat) (u : Value) : PhB (w.setCell ⟨x, k, none⟩ u) r v := (Below.heap_setCell _ _ _ _ (by simpa using hn)).trans h
theorem TkB.setO {w : World} {r x : Nat} {v : Array Value} (h : TkB w r v) (hn : r ≠ x) (k : Nat) (u : Value) : TkB (w.setCell ⟨x, k, none⟩ u) r v := (Below.heap_setCell _ _ _ _ (by simpa using hn)).trans h
theorem phs_new {w : World} {lo : Nat} {p : Ph} {u : List Value} (hp : Tre w lo p u) (hl : lo ≤ w.heap.size) (hu : u.length = 11) : Phs (w.alloc (.cells u.toArray 36)) lo 1 (fun _ => p) (.slice (some ⟨w.heap.size, 0, none⟩) 1 1) := phs_one (heap_alloc_new _ _) hl (hp.allocI _) hu
theorem phs_at {w : World} {lo g : Nat} {p : Ph} {u : List Value} (hg : w.heap.size = g) (hp : Tre w lo p u) (hl : lo ≤ g) (hu : u.length = 11) : Phs (w.alloc (.cells u.toArray 36)) lo 1 (fun _ => p) (.slice (some ⟨g, 0, none⟩) 1 1) := by
 subst hg
 exact phs_new hp hl hu
end Go.Proofs.YtbnlekhjgkojlaaGreatDoor
set_option linter.unusedVariables false
namespace Go.Proofs.YtbnlekhjgkojlaaGreatDoor
set_option maxRecDepth 100000
open Go.RowKit
theorem want_eq {w : World} {pb b c : Nat} {T : List Tok} {st : Pst} (h : PaS w pb b c T st) (hT : T.length ≤ 200) (hat : st.at' ≤ 300) {k n : Int} {s : ByteArray} {st2 : Pst} (hs : wantM T st ⟨k, s, n⟩ = st2) :
 Calls Tryz.prog 96 #[.pointer (some ⟨pb, 0, none⟩), .agg #[.int .i64 k, .string s, .int .i64 n]] w fun e w' => e = .returned (.tuple #[]) ∧ PaS w' pb b c T st2 ∧ GrowA pb w w' := by
 have := want_is h ⟨k, s, n⟩ hT hat
 rw [hs] at this
 exact this
set_option maxHeartbeats 1600000 in
theorem clone_of (s : ByteArray) (w : World) (hs : s.size ≤ 4000) : Calls Tryz.prog 57 #[.string s] w fun e w' => e = .returned (.string s) ∧ Below w.heap.size w w' := by
 have CC : Hid (∀ W, Calls Tryz.prog 76 #[.string s] W fun e w' => e = .returned (.string s) ∧ Below W.heap.size W w') := fun W => (Tryz.stringslite_Clone s W (by omega)).mono fun e w' h => h
 go_enter Tryz.func57, Tryz.ntmps57
 go_wp2_with (go_at_call 76; refine (CC.out _).mono ?_; rintro e w1 ⟨rfl, hb1⟩)
 all_goals (exact bodyPost_ret (v := .string s) (by simp [results, Tryz.results57, go_sem]) rfl ⟨rfl, hb1⟩)
set_option maxHeartbeats 1600000 in
theorem text_yes {w : World} {pb b c : Nat} {T : List Tok} {st : Pst} (h : PaS w pb b c T st) (hT : T.length ≤ 200) (hat : st.at' ≤ 300) {k un : Int} {us : ByteArray} (hu : seeM T st 0 = ⟨k, us, un⟩) (hs : us.size ≤ 4000) :
 Calls Tryz.prog 97 #[.pointer (some ⟨pb, 0, none⟩), .int .i64 k] w fun e w' => e = .returned (.string us) ∧ PaS w' pb b c T { st with at' := st.at' + 1 } ∧ GrowA pb w w' := by
 have HP1 : Hid (PaS w pb b c T st) := h
 have HG1 : Hid (GrowA pb w w) := GrowA.refl _ _
 have hk2 : (k != k) = false := by simp
 have hwr : IntKind.i64.wrap ((st.at' : Int) + 1) = ((st.at' + 1 : Nat) : Int) := by rw [IntWalk.i64_in _ (by omega)]; simp
 have CL : Hid (∀ W, Calls Tryz.prog 57 #[.string us] W fun e w' => e = .returned (.string us) ∧ Below W.heap.size W w') := fun W => clone_of us W hs
 clear h
 go_enter Tryz.func97, Tryz.ntmps97
 go_upto_region 2 with (first
  | (go_at_call 65; (refine (see_lit HP1.out 0 (by omega) hT hat hu).mono ?_); rintro e w2 ⟨rfl, hb⟩; have HG2 : Hid (GrowA pb w w2) := (HG1.out.below hb); have HP2 : Hid (PaS w2 pb b c T st) := (HP1.out.below hb); have hxp : w2.heap.size ≠ pb := (by have := HP2.out.pl; omega); clear hb HP1 HG1))
 obtain ⟨W3, hW3⟩ : ∃ W, W = w2.alloc (.cells #[.int .i64 k, .string us, .int .i64 un] 41) := ⟨_, rfl⟩
 have HP3 : Hid (PaS W3 pb b c T st) := by rw [hW3]; exact HP2.out.allocI _
 have HG3 : Hid (GrowA pb w W3) := by rw [hW3]; exact HG2.out.alloc _
 have HX3 : Hid (TkB W3 w2.heap.size #[.int .i64 k, .string us, .int .i64 un]) := by rw [hW3]; exact TkB.new w2 _
 have hxp : w2.heap.size ≠ pb := by have := HP2.out.pl; omega
 rw [← hW3]
 clear hW3 HP2 HG2
 have x1 := HP3.out.a
 have f1 := HP3.out.fa
 have hl3 := HP3.out.pl
 have hx3 := HX3.out.lt
 obtain ⟨d0, d1, d2⟩ := HX3.out.cells
 obtain ⟨W4, hW4⟩ : ∃ W, W = W3.setCell ⟨pb, 1, none⟩ (.int .i64 ((st.at' : Int) + 1)) := ⟨_, rfl⟩
 have HP4 : Hid (PaS W4 pb b c T { st with at' := st.at' + 1 }) := by rw [hW4]; exact HP3.out.setA (st.at' + 1)
 have HG4 : Hid (GrowA pb w W4) := by rw [hW4]; exact HG3.out.set 1 _
 have HX4 : Hid (TkB W4 w2.heap.size #[.int .i64 k, .string us, .int .i64 un]) := by rw [hW4]; exact HX3.out.grow ((GrowA.refl _ _).set 1 _) hxp
 go_upto_region 6 with fail
 rw [← hW4]
 clear hW4 x1 f1 hl3 hx3 d0 d1 d2
 obtain ⟨d0, d1, d2⟩ := HX4.out.cells
 have hx4 := HX4.out.lt
 go_wp2_with (go_at_call 57; refine (CL.out _).mono ?_; rintro e w5 ⟨rfl, hb5⟩)
 go_ret
 exact ⟨rfl, HP4.out.below hb5, HG4.out.below hb5⟩
end Go.Proofs.YtbnlekhjgkojlaaGreatDoor
set_option linter.unusedVariables false
namespace Go.Proofs.YtbnlekhjgkojlaaGreatDoor
set_option maxRecDepth 100000
open Go.RowKit
set_option maxHeartbeats 1600000 in
theorem noStep_num {pb b c : Nat} {T : List Tok} {st : Pst} {us : ByteArray} {un : Int} (hT : T.length ≤ 200) (hat : st.at' ≤ 300) (hu : seeM T st 0 = ⟨2, us, un⟩) : RunT pb b c T 126 #[.pointer (some ⟨pb, 0, none⟩)] st { st with at' := st.at' + 1 } (ph0 1 ⟨2, un, ⟨#[]⟩⟩ ⟨#[]⟩ 0 0 0 ⟨#[]⟩) := by
 intro w h htb
 have HTB : Hid (RTab w pb) := htb
 clear htb
 have hpl := h.pl
 have hbl := h.bl
 go_enter Tryz.func126, Tryz.ntmps126
 go_upto_region 1 with fail
 obtain ⟨W1, hW1⟩ : ∃ W, W = w.alloc (.cells #[.int .i64 0, .int .i64 0, .int .i64 0, .string ⟨#[]⟩, .string ⟨#[]⟩, .int .i64 0, .int .i64 0, .int .i64 0, .string ⟨#[]⟩, .slice none 0 0, .slice none 0 0] 36) := ⟨_, rfl⟩
 have HG1 : Hid (GrowA pb w W1) := by rw [hW1]; exact (GrowA.refl _ _).alloc _
 have HP1 : Hid (PaS W1 pb b c T st) := by rw [hW1]; exact h.allocI _
 have HR1 : Hid (PhZ W1 w.heap.size) := by rw [hW1]; exact PhB.new w _
 rw [← hW1]
 obtain ⟨r, hr⟩ : ∃ r, r = w.heap.size := ⟨_, rfl⟩
 have HRW : Hid (w.heap.size ≤ r) := Nat.le_of_eq hr.symm
 have hrp : r ≠ pb := by omega
 have hrb : r ≠ b := by omega
 rw [← hr] at HR1 ⊢
 clear hW1 hr h hpl hbl
 go_upto_region 2 with (first
  | (go_at_call 65; (refine (see_lit HP1.out 0 (by omega) hT hat hu).mono ?_); rintro e w2 ⟨rfl, hb⟩; have HG2 : Hid (GrowA pb w w2) := (HG1.out.below hb); have HP2 : Hid (PaS w2 pb b c T st) := (HP1.out.below hb); have HR2 : Hid (PhZ w2 r) := (HR1.out.below hb); have hxp : w2.heap.size ≠ pb := (by have := HP2.out.pl; omega); clear hb HP1 HG1 HR1))
 obtain ⟨W3, hW3⟩ : ∃ W, W = w2.alloc (.cells #[.int .i64 2, .string us, .int .i64 un] 41) := ⟨_, rfl⟩
 have HP3 : Hid (PaS W3 pb b c T st) := by rw [hW3]; exact HP2.out.allocI _
 have HG3 : Hid (GrowA pb w W3) := by rw [hW3]; exact HG2.out.alloc _
 have HR3 : Hid (PhZ W3 r) := by rw [hW3]; exact HR2.out.allocI _
 have HX3 : Hid (TkB W3 w2.heap.size #[.int .i64 2, .string us, .int .i64 un]) := by rw [hW3]; exact TkB.new w2 _
 have hxp : w2.heap.size ≠ pb := by have := HP2.out.pl; omega
 rw [← hW3]
 clear hW3 HP2 HG2 HR2
 have x1 := HP3.out.a
 have f1 := HP3.out.fa
 have hl3 := HP3.out.pl
 have hx3 := HX3.out.lt
 have hr3 := HR3.out.lt
 obtain ⟨d0, d1, d2⟩ := HX3.out.cells
 have hwr : IntKind.i64.wrap ((st.at' : Int) + 1) = ((st.at' + 1 : Nat) : Int) := by rw [IntWalk.i64_in _ (by omega)]; simp
 obtain ⟨W4, hW4⟩ : ∃ W, W = W3.setCell ⟨pb, 1, none⟩ (.int .i64 ((st.at' : Int) + 1)) := ⟨_, rfl⟩
 have HP4 : Hid (PaS W4 pb b c T { st with at' := st.at' + 1 }) := by rw [hW4]; exact HP3.out.setA (st.at' + 1)
 have HG4 : Hid (GrowA pb w W4) := by rw [hW4]; exact HG3.out.set 1 _
 have HR4 : Hid (PhZ W4 r) := by rw [hW4]; exact HR3.out.grow ((GrowA.refl _ _).set 1 _) hrp
 have HX4 : Hid (TkB W4 w2.heap.size #[.int .i64 2, .string us, .int .i64 un]) := by rw [hW4]; exact HX3.out.grow ((GrowA.refl _ _).set 1 _) hxp
 go_upto_region 4 with fail
 rw [← hW4]
 clear hW4 x1 f1 hl3 hx3 hr3 d0 d1 d2 HP3 HG3 HR3 HX3
 obtain ⟨d0, d1, d2⟩ := HX4.out.cells
 have hx4 := HX4.out.lt
 have hr4 := HR4.out.lt
 obtain ⟨⟨y0, y1, y2, y3, y4, y5, y6, y7, y8, y9, y10⟩, z0, z1, z2, z3, z4, z5, z6, z7, z8, z9, z10⟩ := HR4.out.cells
 go_wp2
 refine bodyPost_ret (v := .agg #[.int .i64 1, .int .i64 2, .int .i64 un, .string ⟨#[]⟩, .string ⟨#[]⟩, .int .i64 0, .int .i64 0, .int .i64 0, .string ⟨#[]⟩, .slice none 0 0, .slice none 0 0]) (by simp [results, Tryz.results126, go_sem, y0, y1, y2, y3, y4, y5, y6, y7, y8, y9, y10]) rfl ⟨[.int .i64 1, .int .i64 2, .int .i64 un, .string ⟨#[]⟩, .string ⟨#[]⟩, .int .i64 0, .int .i64 0, .int .i64 0, .string ⟨#[]⟩, .slice none 0 0, .slice none 0 0], ?_, rfl, ?_, ?_⟩
 · exact tre_ph0
 · (repeat (first | with_reducible refine PaS.setR ?_ hrp hrb _ _ | with_reducible refine PaS.allocI ?_ _ | exact HP4.out))
 · (repeat (first | with_reducible refine GrowA.setR ?_ HRW.out _ _ | with_reducible refine GrowA.alloc ?_ _ | exact HG4.out))
set_option maxHeartbeats 1600000 in
theorem noStep_quo {pb b c : Nat} {T : List Tok} {st : Pst} {us : ByteArray} {un : Int} (hT : T.length ≤ 200) (hat : st.at' ≤ 300) (hu : seeM T st 0 = ⟨3, us, un⟩) (hs : us.size ≤ 4000) : RunT pb b c T 126 #[.pointer (some ⟨pb, 0, none⟩)] st { st with at' := st.at' + 1 } (ph0 1 ⟨3, 0, us⟩ ⟨#[]⟩ 0 0 0 ⟨#[]⟩) := by
 intro w h htb
 have HTB : Hid (RTab w pb) := htb
 clear htb
 have CL : Hid (∀ W, Calls Tryz.prog 57 #[.string us] W fun e w' => e = .returned (.string us) ∧ Below W.heap.size W w') := fun W => clone_of us W hs
 have hpl := h.pl
 have hbl := h.bl
 go_enter Tryz.func126, Tryz.ntmps126
 go_upto_region 1 with fail
 obtain ⟨W1, hW1⟩ : ∃ W, W = w.alloc (.cells #[.int .i64 0, .int .i64 0, .int .i64 0, .string ⟨#[]⟩, .string ⟨#[]⟩, .int .i64 0, .int .i64 0, .int .i64 0, .string ⟨#[]⟩, .slice none 0 0, .slice none 0 0] 36) := ⟨_, rfl⟩
 have HG1 : Hid (GrowA pb w W1) := by rw [hW1]; exact (GrowA.refl _ _).alloc _
 have HP1 : Hid (PaS W1 pb b c T st) := by rw [hW1]; exact h.allocI _
 have HR1 : Hid (PhZ W1 w.heap.size) := by rw [hW1]; exact PhB.new w _
 rw [← hW1]
 obtain ⟨r, hr⟩ : ∃ r, r = w.heap.size := ⟨_, rfl⟩
 have HRW : Hid (w.heap.size ≤ r) := Nat.le_of_eq hr.symm
 have hrp : r ≠ pb := by omega
 have hrb : r ≠ b := by omega
 rw [← hr] at HR1 ⊢
 clear hW1 hr h hpl hbl
 go_upto_region 2 with (first
  | (go_at_call 65; (refine (see_lit HP1.out 0 (by omega) hT hat hu).mono ?_); rintro e w2 ⟨rfl, hb⟩; have HG2 : Hid (GrowA pb w w2) := (HG1.out.below hb); have HP2 : Hid (PaS w2 pb b c T st) := (HP1.out.below hb); have HR2 : Hid (PhZ w2 r) := (HR1.out.below hb); have hxp : w2.heap.size ≠ pb := (by have := HP2.out.pl; omega); clear hb HP1 HG1 HR1))
 obtain ⟨W3, hW3⟩ : ∃ W, W = w2.alloc (.cells #[.int .i64 3, .string us, .int .i64 un] 41) := ⟨_, rfl⟩
 have HP3 : Hid (PaS W3 pb b c T st) := by rw [hW3]; exact HP2.out.allocI _
 have HG3 : Hid (GrowA pb w W3) := by rw [hW3]; exact HG2.out.alloc _
 have HR3 : Hid (PhZ W3 r) := by rw [hW3]; exact HR2.out.allocI _
 have HX3 : Hid (TkB W3 w2.heap.size #[.int .i64 3, .string us, .int .i64 un]) := by rw [hW3]; exact TkB.new w2 _
 have hxp : w2.heap.size ≠ pb := by have := HP2.out.pl; omega
 rw [← hW3]
 clear hW3 HP2 HG2 HR2
 have x1 := HP3.out.a
 have f1 := HP3.out.fa
 have hl3 := HP3.out.pl
 have hx3 := HX3.out.lt
 have hr3 := HR3.out.lt
 obtain ⟨d0, d1, d2⟩ := HX3.out.cells
 have hwr : IntKind.i64.wrap ((st.at' : Int) + 1) = ((st.at' + 1 : Nat) : Int) := by rw [IntWalk.i64_in _ (by omega)]; simp
 obtain ⟨W4, hW4⟩ : ∃ W, W = W3.setCell ⟨pb, 1, none⟩ (.int .i64 ((st.at' : Int) + 1)) := ⟨_, rfl⟩
 have HP4 : Hid (PaS W4 pb b c T { st with at' := st.at' + 1 }) := by rw [hW4]; exact HP3.out.setA (st.at' + 1)
 have HG4 : Hid (GrowA pb w W4) := by rw [hW4]; exact HG3.out.set 1 _
 have HR4 : Hid (PhZ W4 r) := by rw [hW4]; exact HR3.out.grow ((GrowA.refl _ _).set 1 _) hrp
 have HX4 : Hid (TkB W4 w2.heap.size #[.int .i64 3, .string us, .int .i64 un]) := by rw [hW4]; exact HX3.out.grow ((GrowA.refl _ _).set 1 _) hxp
 go_upto_region 7 with fail
 rw [← hW4]
 clear hW4 x1 f1 hl3 hx3 hr3 d0 d1 d2 HP3 HG3 HR3 HX3
 obtain ⟨d0, d1, d2⟩ := HX4.out.cells
 have hx4 := HX4.out.lt
 have hr4 := HR4.out.lt
 go_wp2_with (go_at_call 57; refine (CL.out _).mono ?_; rintro e w5 ⟨rfl, hb⟩; have HP5 : Hid (PaS w5 pb b c T { st with at' := st.at' + 1 }) := HP4.out.below hb; have HG5 : Hid (GrowA pb w w5) := HG4.out.below hb; have HR5 : Hid (PhZ w5 r) := HR4.out.below hb; have hr5 := HR5.out.lt; obtain ⟨⟨y0, y1, y2, y3, y4, y5, y6, y7, y8, y9, y10⟩, z0, z1, z2, z3, z4, z5, z6, z7, z8, z9, z10⟩ := HR5.out.cells; clear hb HP4 HG4 HR4)
 refine bodyPost_ret (v := .agg #[.int .i64 1, .int .i64 3, .int .i64 0, .string us, .string ⟨#[]⟩, .int .i64 0, .int .i64 0, .int .i64 0, .string ⟨#[]⟩, .slice none 0 0, .slice none 0 0]) (by simp [results, Tryz.results126, go_sem, y0, y1, y2, y3, y4, y5, y6, y7, y8, y9, y10]) rfl ⟨[.int .i64 1, .int .i64 3, .int .i64 0, .string us, .string ⟨#[]⟩, .int .i64 0, .int .i64 0, .int .i64 0, .string ⟨#[]⟩, .slice none 0 0, .slice none 0 0], ?_, rfl, ?_, ?_⟩
 · exact tre_ph0
 · (repeat (first | with_reducible refine PaS.setR ?_ hrp hrb _ _ | with_reducible refine PaS.allocI ?_ _ | exact HP5.out))
 · (repeat (first | with_reducible refine GrowA.setR ?_ HRW.out _ _ | with_reducible refine GrowA.alloc ?_ _ | exact HG5.out))
set_option maxHeartbeats 1600000 in
theorem noStep_dol {pb b c : Nat} {T : List Tok} {st : Pst} {us : ByteArray} {un : Int} (hT : T.length ≤ 200) (hat : st.at' ≤ 300) (hu : seeM T st 0 = ⟨4, us, un⟩) (hs : us.size ≤ 4000) : RunT pb b c T 126 #[.pointer (some ⟨pb, 0, none⟩)] st { st with at' := st.at' + 1 } (ph0 2 ⟨0, 0, ⟨#[]⟩⟩ us 0 0 0 ⟨#[]⟩) := by
 intro w h htb
 have HTB : Hid (RTab w pb) := htb
 clear htb
 have hpl := h.pl
 have hbl := h.bl
 go_enter Tryz.func126, Tryz.ntmps126
 go_upto_region 1 with fail
 obtain ⟨W1, hW1⟩ : ∃ W, W = w.alloc (.cells #[.int .i64 0, .int .i64 0, .int .i64 0, .string ⟨#[]⟩, .string ⟨#[]⟩, .int .i64 0, .int .i64 0, .int .i64 0, .string ⟨#[]⟩, .slice none 0 0, .slice none 0 0] 36) := ⟨_, rfl⟩
 have HG1 : Hid (GrowA pb w W1) := by rw [hW1]; exact (GrowA.refl _ _).alloc _
 have HP1 : Hid (PaS W1 pb b c T st) := by rw [hW1]; exact h.allocI _
 have HR1 : Hid (PhZ W1 w.heap.size) := by rw [hW1]; exact PhB.new w _
 rw [← hW1]
 obtain ⟨r, hr⟩ : ∃ r, r = w.heap.size := ⟨_, rfl⟩
 have HRW : Hid (w.heap.size ≤ r) := Nat.le_of_eq hr.symm
 have hrp : r ≠ pb := by omega
 have hrb : r ≠ b := by omega
 rw [← hr] at HR1 ⊢
 clear hW1 hr h hpl hbl
 go_upto_region 2 with (first
  | (go_at_call 65; (refine (see_lit HP1.out 0 (by omega) hT hat hu).mono ?_); rintro e w2 ⟨rfl, hb⟩; have HG2 : Hid (GrowA pb w w2) := (HG1.out.below hb); have HP2 : Hid (PaS w2 pb b c T st) := (HP1.out.below hb); have HR2 : Hid (PhZ w2 r) := (HR1.out.below hb); have hxp : w2.heap.size ≠ pb := (by have := HP2.out.pl; omega); clear hb HP1 HG1 HR1))
 obtain ⟨W3, hW3⟩ : ∃ W, W = w2.alloc (.cells #[.int .i64 4, .string us, .int .i64 un] 41) := ⟨_, rfl⟩
 have HP3 : Hid (PaS W3 pb b c T st) := by rw [hW3]; exact HP2.out.allocI _
 have HG3 : Hid (GrowA pb w W3) := by rw [hW3]; exact HG2.out.alloc _
 have HR3 : Hid (PhZ W3 r) := by rw [hW3]; exact HR2.out.allocI _
 have HX3 : Hid (TkB W3 w2.heap.size #[.int .i64 4, .string us, .int .i64 un]) := by rw [hW3]; exact TkB.new w2 _
 rw [← hW3]
 clear hW3 HP2 HG2 HR2
 obtain ⟨d0, d1, d2⟩ := HX3.out.cells
 have hx3 := HX3.out.lt
 go_wp2_with (go_at_call 97; refine (text_yes HP3.out hT hat hu hs).mono ?_; rintro e w4 ⟨rfl, hp, hg⟩; have HP4 : Hid (PaS w4 pb b c T { st with at' := st.at' + 1 }) := hp; have HG4 : Hid (GrowA pb w w4) := HG3.out.trans hg; have HR4 : Hid (PhZ w4 r) := HR3.out.grow hg hrp; have hr4 := HR4.out.lt; obtain ⟨⟨y0, y1, y2, y3, y4, y5, y6, y7, y8, y9, y10⟩, z0, z1, z2, z3, z4, z5, z6, z7, z8, z9, z10⟩ := HR4.out.cells; clear hp hg HP3 HG3 HR3 HX3)
 refine bodyPost_ret (v := .agg #[.int .i64 2, .int .i64 0, .int .i64 0, .string ⟨#[]⟩, .string us, .int .i64 0, .int .i64 0, .int .i64 0, .string ⟨#[]⟩, .slice none 0 0, .slice none 0 0]) (by simp [results, Tryz.results126, go_sem, y0, y1, y2, y3, y4, y5, y6, y7, y8, y9, y10]) rfl ⟨[.int .i64 2, .int .i64 0, .int .i64 0, .string ⟨#[]⟩, .string us, .int .i64 0, .int .i64 0, .int .i64 0, .string ⟨#[]⟩, .slice none 0 0, .slice none 0 0], ?_, rfl, ?_, ?_⟩
 · exact tre_ph0
 · (repeat (first | with_reducible refine PaS.setR ?_ hrp hrb _ _ | with_reducible refine PaS.allocI ?_ _ | exact HP4.out))
 · (repeat (first | with_reducible refine GrowA.setR ?_ HRW.out _ _ | with_reducible refine GrowA.alloc ?_ _ | exact HG4.out))
end Go.Proofs.YtbnlekhjgkojlaaGreatDoor
