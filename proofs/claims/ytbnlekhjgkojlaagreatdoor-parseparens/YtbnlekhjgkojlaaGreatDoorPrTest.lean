import Derived.Test.YtbnlekhjgkojlaaGreatDoorQoQry
set_option linter.unusedVariables false
namespace Go.Proofs.YtbnlekhjgkojlaaGreatDoor
set_option maxRecDepth 100000
open Go.RowKit
def TsB (w : World) (r : Nat) (v : Array Value) : Prop := w.heap[r]? = some (.cells v 32)
theorem TsB.lt {w : World} {r : Nat} {v : Array Value} (h : TsB w r v) : r < w.heap.size := (Array.getElem?_eq_some_iff.1 h).1
theorem TsB.new (w : World) (v : Array Value) : TsB (w.alloc (.cells v 32)) w.heap.size v := heap_alloc_new _ _
theorem TsB.grow {w w' : World} {pb r : Nat} {v : Array Value} (h : TsB w r v) (hg : GrowA pb w w') (hr : r ≠ pb) : TsB w' r v := (hg.2.2.2.2 r h.lt hr).trans h
theorem TsB.below {w w' : World} {r : Nat} {v : Array Value} (h : TsB w r v) (hb : Below w.heap.size w w') : TsB w' r v := (hb.block r h.lt).trans h
theorem TsB.allocI {w : World} {r : Nat} {v : Array Value} (h : TsB w r v) (o : Obj) : TsB (w.alloc o) r v := h.below ((Below.refl _ _).alloc (Nat.le_refl _) o)
theorem TsB.cells {w : World} {r : Nat} {x y : Value} (h : TsB w r #[x, y]) : (w.cell? ⟨r, 0, none⟩ = some x ∧ w.cell? ⟨r, 1, none⟩ = some y) ∧ w.frozen? ⟨r, 0, none⟩ = false ∧ w.frozen? ⟨r, 1, none⟩ = false := by
 unfold TsB at h
 refine ⟨⟨?_, ?_⟩, ?_, ?_⟩ <;> simp [World.cell?, World.frozen?, h]
def RunK (pb b c : Nat) (T : List Tok) (st st' : Pst) (tk : Int) (tn : ByteArray) : Prop := ∀ (w : World), PaS w pb b c T st → RTab w pb → Calls Tryz.prog 124 #[.pointer (some ⟨pb, 0, none⟩)] w fun e w' => e = .returned (.agg #[.int .i64 tk, .string tn]) ∧ PaS w' pb b c T st' ∧ GrowA pb w w'
theorem RunK.use {pb b c : Nat} {T : List Tok} {st st' : Pst} {tk : Int} {tn : ByteArray} (h : RunK pb b c T st st' tk tn) {w W : World} (ht : RTab w pb) (hp : PaS W pb b c T st) (hg : GrowA pb w W) :
 Calls Tryz.prog 124 #[.pointer (some ⟨pb, 0, none⟩)] W fun e w' => e = .returned (.agg #[.int .i64 tk, .string tn]) ∧ PaS w' pb b c T st' ∧ GrowA pb W w' := h W hp (ht.grow hg)
theorem kindTest_use {pb b c : Nat} {T : List Tok} {st : Pst} {w W : World} (ht : RTab w pb) (h : PaS W pb b c T st) (hg : GrowA pb w W) (s : ByteArray) {v : Int} (hk : ktOf s = v) :
 Calls Tryz.prog 128 #[.string s] W fun e w' => e = .returned (.int .i64 v) ∧ Below W.heap.size W w' := by
 rw [← hk]; exact kindTestOf_is s W (ht.grow hg).2.1
theorem axis_use {pb b c : Nat} {T : List Tok} {st : Pst} {w W : World} (ht : RTab w pb) (h : PaS W pb b c T st) (hg : GrowA pb w W) (s : ByteArray) {v : Int} (hk : axOf s = v) :
 Calls Tryz.prog 127 #[.string s] W fun e w' => e = .returned (.int .i64 v) ∧ Below W.heap.size W w' := by
 rw [← hk]; exact axisOf_is s W (ht.grow hg).2.2.1
set_option maxHeartbeats 1600000 in
theorem along_is (ax tk : Int) (tn : ByteArray) (w : World) : Calls Tryz.prog 121 #[.int .i64 ax, .agg #[.int .i64 tk, .string tn]] w fun e w' => e = .returned (.agg #[.int .i64 9, .int .i64 0, .int .i64 0, .string ⟨#[]⟩, .string ⟨#[]⟩, .int .i64 0, .int .i64 ax, .int .i64 tk, .string tn, .slice none 0 0, .slice none 0 0]) ∧ Below w.heap.size w w' := by
 go_enter Tryz.func121, Tryz.ntmps121
 go_wp2
 refine bodyPost_ret (v := .agg #[.int .i64 9, .int .i64 0, .int .i64 0, .string ⟨#[]⟩, .string ⟨#[]⟩, .int .i64 0, .int .i64 ax, .int .i64 tk, .string tn, .slice none 0 0, .slice none 0 0]) (by simp [results, Tryz.results121, go_sem]) rfl ⟨rfl, ?_⟩
 (repeat (first | exact Below.refl _ _ | refine Below.alloc ?_ (by simp) _))
set_option maxHeartbeats 1600000 in
theorem test_star {pb b c : Nat} {T : List Tok} {st : Pst} (hT : T.length ≤ 200) (hat : st.at' ≤ 300) (c0 : eqT (seeM T st 0) ⟨5, ⟨#[42]⟩, 0⟩ = true) : RunK pb b c T st { st with at' := st.at' + 1 } 5 ⟨#[]⟩ := by
 intro w h htb
 have HTB : Hid (RTab w pb) := htb
 clear htb
 have hpl := h.pl
 have hbl := h.bl
 go_enter Tryz.func124, Tryz.ntmps124
 go_upto_region 1 with fail
 obtain ⟨W1, hW1⟩ : ∃ W, W = w.alloc (.cells #[.int .i64 0, .string ⟨#[]⟩] 32) := ⟨_, rfl⟩
 have HG1 : Hid (GrowA pb w W1) := by rw [hW1]; exact (GrowA.refl _ _).alloc _
 have HP1 : Hid (PaS W1 pb b c T st) := by rw [hW1]; exact h.allocI _
 have HR1 : Hid (TsB W1 w.heap.size #[.int .i64 0, .string ⟨#[]⟩]) := by rw [hW1]; exact TsB.new w _
 rw [← hW1]
 obtain ⟨r, hr⟩ : ∃ r, r = w.heap.size := ⟨_, rfl⟩
 have HRW : Hid (w.heap.size ≤ r) := Nat.le_of_eq hr.symm
 have hrp : r ≠ pb := by omega
 have hrb : r ≠ b := by omega
 rw [← hr] at HR1 ⊢
 clear hW1 hr h hpl hbl
 go_wp2_with (first
  | (go_at_call 66; have HNX := HP1; refine (mark_is _ _).mono ?_; rintro e w2 ⟨rfl, hb⟩; have HG2 : Hid (GrowA pb w w2) := (HG1.out.below hb); have HP2 : Hid (PaS w2 pb b c T st) := (HP1.out.below hb); have HR2 : Hid (TsB w2 r #[.int .i64 0, .string ⟨#[]⟩]) := (HR1.out.below hb); clear hb HNX HP1 HG1 HR1)
  | (go_at_call 69; (refine (skip_yes HP2.out hT hat _ _ _ c0).mono ?_); rintro e w3 ⟨rfl, hp, hg⟩; have HG3 : Hid (GrowA pb w w3) := (HG2.out.trans hg); have HP3 : Hid (PaS w3 pb b c T { st with at' := st.at' + 1 }) := hp; have HR3 : Hid (TsB w3 r #[.int .i64 0, .string ⟨#[]⟩]) := (HR2.out.grow hg hrp); obtain ⟨⟨y0, y1⟩, z0, z1⟩ := HR3.out.cells; clear hp hg HP2 HG2 HR2))
 refine bodyPost_ret (v := .agg #[.int .i64 5, .string ⟨#[]⟩]) (by simp [results, Tryz.results124, go_sem, y0, y1]) rfl ⟨rfl, ?_, ?_⟩
 · (repeat (first | with_reducible refine PaS.setR ?_ hrp hrb _ _ | with_reducible refine PaS.allocI ?_ _ | exact HP3.out))
 · (repeat (first | with_reducible refine GrowA.setR ?_ HRW.out _ _ | with_reducible refine GrowA.alloc ?_ _ | exact HG3.out))
set_option maxHeartbeats 1600000 in
theorem test_name {pb b c : Nat} {T : List Tok} {st : Pst} {us : ByteArray} {un : Int} (hT : T.length ≤ 200) (hat : st.at' ≤ 300) (hu : seeM T st 0 = ⟨1, us, un⟩) (hs : us.size ≤ 4000) (c0 : eqT ⟨1, us, un⟩ ⟨5, ⟨#[42]⟩, 0⟩ = false) (hk : ktOf us = 0) : RunK pb b c T st { st with at' := st.at' + 1 } 4 us := by
 intro w h htb
 have HTB : Hid (RTab w pb) := htb
 clear htb
 have hpl := h.pl
 have hbl := h.bl
 go_enter Tryz.func124, Tryz.ntmps124
 go_upto_region 1 with fail
 obtain ⟨W1, hW1⟩ : ∃ W, W = w.alloc (.cells #[.int .i64 0, .string ⟨#[]⟩] 32) := ⟨_, rfl⟩
 have HG1 : Hid (GrowA pb w W1) := by rw [hW1]; exact (GrowA.refl _ _).alloc _
 have HP1 : Hid (PaS W1 pb b c T st) := by rw [hW1]; exact h.allocI _
 have HR1 : Hid (TsB W1 w.heap.size #[.int .i64 0, .string ⟨#[]⟩]) := by rw [hW1]; exact TsB.new w _
 rw [← hW1]
 obtain ⟨r, hr⟩ : ∃ r, r = w.heap.size := ⟨_, rfl⟩
 have HRW : Hid (w.heap.size ≤ r) := Nat.le_of_eq hr.symm
 have hrp : r ≠ pb := by omega
 have hrb : r ≠ b := by omega
 rw [← hr] at HR1 ⊢
 clear hW1 hr h hpl hbl
 go_wp2_with (first
  | (go_at_call 66; have HNX := HP1; refine (mark_is _ _).mono ?_; rintro e w2 ⟨rfl, hb⟩; have HG2 : Hid (GrowA pb w w2) := (HG1.out.below hb); have HP2 : Hid (PaS w2 pb b c T st) := (HP1.out.below hb); have HR2 : Hid (TsB w2 r #[.int .i64 0, .string ⟨#[]⟩]) := (HR1.out.below hb); clear hb HNX HP1 HG1 HR1)
  | (go_at_call 69; (refine (skip_no HP2.out hT hat _ _ _ (by rw [hu]; exact c0)).mono ?_); rintro e w3 ⟨rfl, hp, hg⟩; have HG3 : Hid (GrowA pb w w3) := (HG2.out.trans hg); have HP3 : Hid (PaS w3 pb b c T st) := hp; have HR3 : Hid (TsB w3 r #[.int .i64 0, .string ⟨#[]⟩]) := (HR2.out.grow hg hrp); clear hp hg HP2 HG2 HR2)
  | (go_at_call 97; (refine (text_yes HP3.out hT hat hu hs).mono ?_); rintro e w4 ⟨rfl, hp, hg⟩; have HG4 : Hid (GrowA pb w w4) := (HG3.out.trans hg); have HP4 : Hid (PaS w4 pb b c T { st with at' := st.at' + 1 }) := hp; have HR4 : Hid (TsB w4 r #[.int .i64 0, .string ⟨#[]⟩]) := (HR3.out.grow hg hrp); clear hp hg HP3 HG3 HR3)
  | (go_at_call 128; (refine (kindTest_use HTB.out HP4.out HG4.out us hk).mono ?_); rintro e w5 ⟨rfl, hb⟩; have HG5 : Hid (GrowA pb w w5) := (HG4.out.below hb); have HP5 : Hid (PaS w5 pb b c T { st with at' := st.at' + 1 }) := (HP4.out.below hb); have HR5 : Hid (TsB w5 r #[.int .i64 0, .string ⟨#[]⟩]) := (HR4.out.below hb); obtain ⟨⟨y0, y1⟩, z0, z1⟩ := HR5.out.cells; clear hb HP4 HG4 HR4))
 refine bodyPost_ret (v := .agg #[.int .i64 4, .string us]) (by simp [results, Tryz.results124, go_sem, y0, y1]) rfl ⟨rfl, ?_, ?_⟩
 · (repeat (first | with_reducible refine PaS.setR ?_ hrp hrb _ _ | with_reducible refine PaS.allocI ?_ _ | exact HP5.out))
 · (repeat (first | with_reducible refine GrowA.setR ?_ HRW.out _ _ | with_reducible refine GrowA.alloc ?_ _ | exact HG5.out))
set_option maxHeartbeats 1600000 in
theorem test_kind {pb b c : Nat} {T : List Tok} {st : Pst} {us : ByteArray} {un kt : Int} {s2 : Pst} (hT : T.length ≤ 200) (hat : st.at' ≤ 300) (hu : seeM T st 0 = ⟨1, us, un⟩) (hs : us.size ≤ 4000) (c0 : eqT ⟨1, us, un⟩ ⟨5, ⟨#[42]⟩, 0⟩ = false) (hk : ktOf us = kt) (k0 : (kt == 0) = false) (ha1 : st.at' + 1 ≤ 300) (ha2 : st.at' + 1 + 1 ≤ 300) (y1 : eqT (seeM T { st with at' := st.at' + 1 } 0) ⟨5, ⟨#[40]⟩, 0⟩ = true) (hw : wantM T { st with at' := st.at' + 1 + 1 } ⟨5, ⟨#[41]⟩, 0⟩ = s2) : RunK pb b c T st s2 kt ⟨#[]⟩ := by
 intro w h htb
 have HTB : Hid (RTab w pb) := htb
 clear htb
 have hpl := h.pl
 have hbl := h.bl
 go_enter Tryz.func124, Tryz.ntmps124
 go_upto_region 1 with fail
 obtain ⟨W1, hW1⟩ : ∃ W, W = w.alloc (.cells #[.int .i64 0, .string ⟨#[]⟩] 32) := ⟨_, rfl⟩
 have HG1 : Hid (GrowA pb w W1) := by rw [hW1]; exact (GrowA.refl _ _).alloc _
 have HP1 : Hid (PaS W1 pb b c T st) := by rw [hW1]; exact h.allocI _
 have HR1 : Hid (TsB W1 w.heap.size #[.int .i64 0, .string ⟨#[]⟩]) := by rw [hW1]; exact TsB.new w _
 rw [← hW1]
 obtain ⟨r, hr⟩ : ∃ r, r = w.heap.size := ⟨_, rfl⟩
 have HRW : Hid (w.heap.size ≤ r) := Nat.le_of_eq hr.symm
 have hrp : r ≠ pb := by omega
 have hrb : r ≠ b := by omega
 rw [← hr] at HR1 ⊢
 clear hW1 hr h hpl hbl
 go_wp2_with (first
  | (go_at_call 66; have HNX := HP1; refine (mark_is _ _).mono ?_; rintro e w2 ⟨rfl, hb⟩; have HG2 : Hid (GrowA pb w w2) := (HG1.out.below hb); have HP2 : Hid (PaS w2 pb b c T st) := (HP1.out.below hb); have HR2 : Hid (TsB w2 r #[.int .i64 0, .string ⟨#[]⟩]) := (HR1.out.below hb); clear hb HNX HP1 HG1 HR1)
  | (go_at_call 69; (refine (skip_no HP2.out hT hat _ _ _ (by rw [hu]; exact c0)).mono ?_); rintro e w3 ⟨rfl, hp, hg⟩; have HG3 : Hid (GrowA pb w w3) := (HG2.out.trans hg); have HP3 : Hid (PaS w3 pb b c T st) := hp; have HR3 : Hid (TsB w3 r #[.int .i64 0, .string ⟨#[]⟩]) := (HR2.out.grow hg hrp); clear hp hg HP2 HG2 HR2)
  | (go_at_call 97; (refine (text_yes HP3.out hT hat hu hs).mono ?_); rintro e w4 ⟨rfl, hp, hg⟩; have HG4 : Hid (GrowA pb w w4) := (HG3.out.trans hg); have HP4 : Hid (PaS w4 pb b c T { st with at' := st.at' + 1 }) := hp; have HR4 : Hid (TsB w4 r #[.int .i64 0, .string ⟨#[]⟩]) := (HR3.out.grow hg hrp); clear hp hg HP3 HG3 HR3)
  | (go_at_call 128; (refine (kindTest_use HTB.out HP4.out HG4.out us hk).mono ?_); rintro e w5 ⟨rfl, hb⟩; have HG5 : Hid (GrowA pb w w5) := (HG4.out.below hb); have HP5 : Hid (PaS w5 pb b c T { st with at' := st.at' + 1 }) := (HP4.out.below hb); have HR5 : Hid (TsB w5 r #[.int .i64 0, .string ⟨#[]⟩]) := (HR4.out.below hb); clear hb HP4 HG4 HR4)
  | (go_at_call 66; have HNX := HP5; refine (mark_is _ _).mono ?_; rintro e w6 ⟨rfl, hb⟩; have HG6 : Hid (GrowA pb w w6) := (HG5.out.below hb); have HP6 : Hid (PaS w6 pb b c T { st with at' := st.at' + 1 }) := (HP5.out.below hb); have HR6 : Hid (TsB w6 r #[.int .i64 0, .string ⟨#[]⟩]) := (HR5.out.below hb); clear hb HNX HP5 HG5 HR5)
  | (go_at_call 69; (refine (skip_yes HP6.out hT ha1 _ _ _ y1).mono ?_); rintro e w7 ⟨rfl, hp, hg⟩; have HG7 : Hid (GrowA pb w w7) := (HG6.out.trans hg); have HP7 : Hid (PaS w7 pb b c T { st with at' := st.at' + 1 + 1 }) := hp; have HR7 : Hid (TsB w7 r #[.int .i64 0, .string ⟨#[]⟩]) := (HR6.out.grow hg hrp); clear hp hg HP6 HG6 HR6)
  | (go_at_call 66; have HNX := HP7; refine (mark_is _ _).mono ?_; rintro e w8 ⟨rfl, hb⟩; have HG8 : Hid (GrowA pb w w8) := (HG7.out.below hb); have HP8 : Hid (PaS w8 pb b c T { st with at' := st.at' + 1 + 1 }) := (HP7.out.below hb); have HR8 : Hid (TsB w8 r #[.int .i64 0, .string ⟨#[]⟩]) := (HR7.out.below hb); clear hb HNX HP7 HG7 HR7)
  | (go_at_call 96; (refine (want_eq HP8.out hT ha2 hw).mono ?_); rintro e w9 ⟨rfl, hp, hg⟩; have HG9 : Hid (GrowA pb w w9) := (HG8.out.trans hg); have HP9 : Hid (PaS w9 pb b c T s2) := hp; have HR9 : Hid (TsB w9 r #[.int .i64 0, .string ⟨#[]⟩]) := (HR8.out.grow hg hrp); obtain ⟨⟨y0, y1⟩, z0, z1⟩ := HR9.out.cells; clear hp hg HP8 HG8 HR8))
 refine bodyPost_ret (v := .agg #[.int .i64 kt, .string ⟨#[]⟩]) (by simp [results, Tryz.results124, go_sem, y0, y1]) rfl ⟨rfl, ?_, ?_⟩
 · (repeat (first | with_reducible refine PaS.setR ?_ hrp hrb _ _ | with_reducible refine PaS.allocI ?_ _ | exact HP9.out))
 · (repeat (first | with_reducible refine GrowA.setR ?_ HRW.out _ _ | with_reducible refine GrowA.alloc ?_ _ | exact HG9.out))
end Go.Proofs.YtbnlekhjgkojlaaGreatDoor
