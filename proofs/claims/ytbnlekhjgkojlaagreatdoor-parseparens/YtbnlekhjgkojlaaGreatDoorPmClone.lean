import Derived.Test.YtbnlekhjgkojlaaGreatDoorPtFor
import Derived.Sort.AtCall
import Derived.Test.YtbnlekhjgkojlaaGreatDoorPkPick
import Derived.Test.YtbnlekhjgkojlaaGreatDoorLaidQ
set_option linter.unusedVariables false
namespace Go.Proofs.YtbnlekhjgkojlaaGreatDoor
set_option maxRecDepth 100000
open Go.RowKit
def ClE (CK : Nat → Int) (CN CA : Nat → ByteArray) (CD : Nat → Bool) (CE : Nat → Ph) (i : Nat) (w : World) (S : Nat → Prop) (u : List Value) : Prop := ∃ x, u = [.int .i64 (CK i), .string (CN i), .string (CA i), .bool (CD i)] ++ x ∧ (CE i).V w S x
theorem ClE.keeps (CK : Nat → Int) (CN CA : Nat → ByteArray) (CD : Nat → Bool) (CE : Nat → Ph) : ∀ i, Keeps (ClE CK CN CA CD CE i) := fun i w w' S S' u h1 h2 h3 => by
 obtain ⟨x, q1, q2⟩ := h3
 exact ⟨x, q1, Ph.V.keep h1 h2 q2⟩
theorem infoCla : (Tryz.prog.info? 74).map (fun i => (i.zero, i.size, i.bytes)) = some (some (.agg #[.int .i64 0, .string ByteArray.empty, .string ByteArray.empty, .bool false, .int .i64 0, .int .i64 0, .int .i64 0, .string ByteArray.empty, .string ByteArray.empty, .int .i64 0, .int .i64 0, .int .i64 0, .string ByteArray.empty, .slice none 0 0, .slice none 0 0]), 15, 192) := by kernel_rfl
def RunB (pb b c : Nat) (T : List Tok) (f : Nat) (st st' : Pst) (n : Nat) (CK : Nat → Int) (CN CA : Nat → ByteArray) (CD : Nat → Bool) (CE : Nat → Ph) : Prop := ∀ (w : World), PaS w pb b c T st → RTab w pb → Calls Tryz.prog f #[.pointer (some ⟨pb, 0, none⟩)] w fun e w' => ∃ v, LOwn 74 15 (ClE CK CN CA CD CE) w' w.heap.size v n ∧ e = .returned v ∧ PaS w' pb b c T st' ∧ GrowA pb w w'
set_option maxHeartbeats 3200000 in
theorem bindings_is {pb b c : Nat} {T : List Tok} {n : Nat} {CK : Nat → Int} {CN CA : Nat → ByteArray} {CD : Nat → Bool} {CE : Nat → Ph} {ST : Nat → Pst} {FK : Nat → Bool} (hT : T.length ≤ 200) (hn2 : n ≤ 1000) (hS : ∀ k, k ≤ n → (ST k).at' ≤ 299)
 (hf : ∀ k, k < n → FK k = true → eqT (seeM T (ST k) 0) ⟨1, ⟨#[102, 111, 114]⟩, 0⟩ = true ∧ RunC pb b c T 111 { ST k with at' := (ST k).at' + 1 } (ST (k + 1)) (CK k) (CN k) (CA k) (CD k) (CE k))
 (hl : ∀ k, k < n → FK k = false → (eqT (seeM T (ST k) 0) ⟨1, ⟨#[102, 111, 114]⟩, 0⟩ = false ∧ eqT (seeM T (ST k) 0) ⟨1, ⟨#[108, 101, 116]⟩, 0⟩ = true) ∧ RunC pb b c T 112 { ST k with at' := (ST k).at' + 1 } (ST (k + 1)) (CK k) (CN k) (CA k) (CD k) (CE k))
 (h2 : eqT (seeM T (ST n) 0) ⟨1, ⟨#[102, 111, 114]⟩, 0⟩ = false ∧ eqT (seeM T (ST n) 0) ⟨1, ⟨#[108, 101, 116]⟩, 0⟩ = false) : RunB pb b c T 94 (ST 0) (ST n) n CK CN CA CD CE := by
 intro w h htb
 have HTB : Hid (RTab w pb) := htb
 have HF := HidOf hf
 have HLE := HidOf hl
 have H2 := HidOf h2
 have HSS := HidOf hS
 have HPW : Hid (pb < w.heap.size) := h.pl
 have HBW : Hid (b < w.heap.size) := h.bl
 have HP1 : Hid (PaS w pb b c T (ST 0)) := h
 obtain ⟨i0, hi0, hz0, hz1, hz2⟩ := info_parts infoCla
 clear htb hf hl h2 hS h
 go_enter Tryz.func94, Tryz.ntmps94
 go_wp2
 go_loopw [3] (fun lv wr => ∃ k, k ≤ n ∧ PaS wr pb b c T (ST k) ∧ GrowA pb w wr ∧ LOwn 74 15 (ClE CK CN CA CD CE) wr w.heap.size lv k) (fun lv _ => n - lenV lv)
 case atStart => exact ⟨0, Nat.zero_le _, HP1.out, GrowA.refl _ _, LOwn.nil _ _ _ _ _⟩
 case round =>
  obtain ⟨k, hkn, hp, hg, hlw⟩ := hrel
  have HP3 : Hid (PaS wr pb b c T (ST k)) := hp
  have HG3 : Hid (GrowA pb w wr) := hg
  obtain ⟨la, lc, rfl⟩ := hlw.form
  have HL3 : Hid (LOwn 74 15 (ClE CK CN CA CD CE) wr w.heap.size (.slice la k lc) k) := hlw
  have hat : (ST k).at' ≤ 300 := by have := HSS.out k hkn; omega
  clear hp hg hlw HP1
  by_cases hlt : k < n
  · cases hfk : FK k
    · have HC := HidOf (HLE.out k hlt hfk).1
      have HS1 := HidOf (HLE.out k hlt hfk).2
      go_wp2_with (first
       | (go_at_call 81; have HNX := HP3; refine (word_is _ _).mono ?_; rintro e w4 ⟨rfl, hb⟩; have HP4 : Hid (PaS w4 pb b c T (ST k)) := HP3.out.below hb; have HG4 : Hid (GrowA pb w w4) := HG3.out.below hb; have HL4 : Hid (LOwn 74 15 (ClE CK CN CA CD CE) w4 w.heap.size (.slice la k lc) k) := HL3.out.below (ClE.keeps CK CN CA CD CE) hb; clear hb HNX HP3 HG3 HL3)
       | (go_at_call 69; refine (skip_no HP4.out hT hat _ _ _ HC.out.1).mono ?_; rintro e w5 ⟨rfl, hp, hg⟩; have HP5 : Hid (PaS w5 pb b c T (ST k)) := hp; have HG5 : Hid (GrowA pb w w5) := HG4.out.trans hg; have HL5 : Hid (LOwn 74 15 (ClE CK CN CA CD CE) w5 w.heap.size (.slice la k lc) k) := HL4.out.grow (ClE.keeps CK CN CA CD CE) hg HPW.out; clear hp hg HP4 HG4 HL4)
       | (go_at_call 81; have HNX := HP5; refine (word_is _ _).mono ?_; rintro e w6 ⟨rfl, hb⟩; have HP6 : Hid (PaS w6 pb b c T (ST k)) := HP5.out.below hb; have HG6 : Hid (GrowA pb w w6) := HG5.out.below hb; have HL6 : Hid (LOwn 74 15 (ClE CK CN CA CD CE) w6 w.heap.size (.slice la k lc) k) := HL5.out.below (ClE.keeps CK CN CA CD CE) hb; clear hb HNX HP5 HG5 HL5)
       | (go_at_call 69; refine (skip_yes HP6.out hT hat _ _ _ HC.out.2).mono ?_; rintro e w7 ⟨rfl, hp, hg⟩; have HP7 : Hid (PaS w7 pb b c T { ST k with at' := (ST k).at' + 1 }) := hp; have HG7 : Hid (GrowA pb w w7) := HG6.out.trans hg; have HL7 : Hid (LOwn 74 15 (ClE CK CN CA CD CE) w7 w.heap.size (.slice la k lc) k) := HL6.out.grow (ClE.keeps CK CN CA CD CE) hg HPW.out; clear hp hg HP6 HG6 HL6)
       | (go_at_call 112; refine (HS1.out.use HTB.out HP7.out HG7.out).mono ?_; rintro e w8 ⟨lo2, k0_2, k1_2, k2_2, k5_2, k6_2, k7_2, s3_2, s4_2, s8_2, a9_2, a10_2, l9_2, c9_2, l10_2, c10_2, hlo, hv, rfl, hp, hg⟩; have HE2 := HidOf hv; have HOB : Hid (∀ z, (Value.slice la k lc).ownBlock = some z → z < lo2) := (fun z hz => by rw [hlo.2.2.2]; exact (HL7.out.own z hz).2); have HLO2 := HidOf hlo; have HG8 : Hid (GrowA pb w w8) := HG7.out.trans hg; have HP8 : Hid (PaS w8 pb b c T (ST (k + 1))) := hp; have HL8 : Hid (LOwn 74 15 (ClE CK CN CA CD CE) w8 w.heap.size (.slice la k lc) k) := HL7.out.grow (ClE.keeps CK CN CA CD CE) hg HPW.out; clear hv hlo hp hg HP7 HG7 HL7)
       | (at_builtin; obtain ⟨L, ho, hE⟩ := HL8.out.below (ClE.keeps CK CN CA CD CE) ((Below.refl _ _).alloc (Nat.le_refl _) (.cells #[.int .i64 (CK k), .string (CN k), .string (CA k), .bool (CD k), .int .i64 k0_2, .int .i64 k1_2, .int .i64 k2_2, .string s3_2, .string s4_2, .int .i64 k5_2, .int .i64 k6_2, .int .i64 k7_2, .string s8_2, .slice a9_2 l9_2 c9_2, .slice a10_2 l10_2 c10_2] 74)); refine wpList_append_own_at _ rfl (.tmp 18) (.tmp 21) 34 rfl w.heap.size 74 i0 _ 15 192 Tryz.underlying34 hi0 hz0 hz1 hz2 rfl (by decide) _ _ _ rfl ho ⟨w8.heap.size, 0, none⟩ 1 1 ([.int .i64 (CK k), .string (CN k), .string (CA k), .bool (CD k), .int .i64 k0_2, .int .i64 k1_2, .int .i64 k2_2, .string s3_2, .string s4_2, .int .i64 k5_2, .int .i64 k6_2, .int .i64 k7_2, .string s8_2, .slice a9_2 l9_2 c9_2, .slice a10_2 l10_2 c10_2] : List Value) rfl rfl (new_at rfl) (by intro u hu; simp at hu; rcases hu with rfl | rfl | rfl | rfl | rfl | rfl | rfl | rfl | rfl | rfl | rfl | rfl | rfl | rfl | rfl <;> rfl) (by unfold maxLen; omega) (by omega) (by have := HG8.out.1; simp; omega) ?_; intro v7 w9 hown7 hgrow7 _ hat7; have HL9 : Hid (LOwn 74 15 (ClE CK CN CA CD CE) w9 w.heap.size v7 (k + 1)) := LOwn.push (lo1 := lo2) (ClE.keeps CK CN CA CD CE) hE rfl ⟨_, rfl, Ph.V.keep (fun b q => ⟨q.1, by simp; omega⟩) (fun b q => Below.heap_alloc _ _ _ q.2) HE2.out⟩ HLO2.out.1 HOB.out hown7 hgrow7 hat7; have HX7 : Hid (∀ z, z < w8.heap.size → z < w.heap.size → w9.heap[z]? = w8.heap[z]?) := (fun z h1 h2 => (hgrow7.block z (by simp; omega) (fun e => by have := (HL8.out.own z e.symm).1; omega)).trans (Below.heap_alloc _ _ _ h1)); have HG9 : Hid (GrowA pb w w9) := ⟨Nat.le_trans HG8.out.1 (Nat.le_trans (by simp) hgrow7.size), hgrow7.os.trans HG8.out.2.1, hgrow7.tape.trans HG8.out.2.2.1, hgrow7.output.trans HG8.out.2.2.2.1, fun z h1 h2 => (HX7.out z (Nat.lt_of_lt_of_le h1 HG8.out.1) h1).trans (HG8.out.2.2.2.2 z h1 h2)⟩; have HP9 : Hid (PaS w9 pb b c T (ST (k + 1))) := HP8.out.same (Nat.le_trans (by simp) hgrow7.size) (HX7.out pb HP8.out.pl HPW.out) (HX7.out b HP8.out.bl HBW.out); clear ho hE hown7 hgrow7 hat7 HL8 HG8 HP8 HX7))
      go_roundw
      case rel => exact ⟨k + 1, by omega, HP9.out, HG9.out, HL9.out⟩
      case measure =>
       obtain ⟨a7, c7, rfl⟩ := HL9.out.form
       simp [lenV]; omega
    · have HC := HidOf (HF.out k hlt hfk)
      have HS1 := HidOf (HF.out k hlt hfk).2
      go_wp2_with (first
       | (go_at_call 81; have HNX := HP3; refine (word_is _ _).mono ?_; rintro e w4 ⟨rfl, hb⟩; have HP4 : Hid (PaS w4 pb b c T (ST k)) := HP3.out.below hb; have HG4 : Hid (GrowA pb w w4) := HG3.out.below hb; have HL4 : Hid (LOwn 74 15 (ClE CK CN CA CD CE) w4 w.heap.size (.slice la k lc) k) := HL3.out.below (ClE.keeps CK CN CA CD CE) hb; clear hb HNX HP3 HG3 HL3)
       | (go_at_call 69; refine (skip_yes HP4.out hT hat _ _ _ HC.out.1).mono ?_; rintro e w5 ⟨rfl, hp, hg⟩; have HP5 : Hid (PaS w5 pb b c T { ST k with at' := (ST k).at' + 1 }) := hp; have HG5 : Hid (GrowA pb w w5) := HG4.out.trans hg; have HL5 : Hid (LOwn 74 15 (ClE CK CN CA CD CE) w5 w.heap.size (.slice la k lc) k) := HL4.out.grow (ClE.keeps CK CN CA CD CE) hg HPW.out; clear hp hg HP4 HG4 HL4)
       | (go_at_call 111; refine (HS1.out.use HTB.out HP5.out HG5.out).mono ?_; rintro e w6 ⟨lo2, k0_2, k1_2, k2_2, k5_2, k6_2, k7_2, s3_2, s4_2, s8_2, a9_2, a10_2, l9_2, c9_2, l10_2, c10_2, hlo, hv, rfl, hp, hg⟩; have HE2 := HidOf hv; have HOB : Hid (∀ z, (Value.slice la k lc).ownBlock = some z → z < lo2) := (fun z hz => by rw [hlo.2.2.2]; exact (HL5.out.own z hz).2); have HLO2 := HidOf hlo; have HG6 : Hid (GrowA pb w w6) := HG5.out.trans hg; have HP6 : Hid (PaS w6 pb b c T (ST (k + 1))) := hp; have HL6 : Hid (LOwn 74 15 (ClE CK CN CA CD CE) w6 w.heap.size (.slice la k lc) k) := HL5.out.grow (ClE.keeps CK CN CA CD CE) hg HPW.out; clear hv hlo hp hg HP5 HG5 HL5)
       | (at_builtin; obtain ⟨L, ho, hE⟩ := HL6.out.below (ClE.keeps CK CN CA CD CE) ((Below.refl _ _).alloc (Nat.le_refl _) (.cells #[.int .i64 (CK k), .string (CN k), .string (CA k), .bool (CD k), .int .i64 k0_2, .int .i64 k1_2, .int .i64 k2_2, .string s3_2, .string s4_2, .int .i64 k5_2, .int .i64 k6_2, .int .i64 k7_2, .string s8_2, .slice a9_2 l9_2 c9_2, .slice a10_2 l10_2 c10_2] 74)); refine wpList_append_own_at _ rfl (.tmp 9) (.tmp 12) 34 rfl w.heap.size 74 i0 _ 15 192 Tryz.underlying34 hi0 hz0 hz1 hz2 rfl (by decide) _ _ _ rfl ho ⟨w6.heap.size, 0, none⟩ 1 1 ([.int .i64 (CK k), .string (CN k), .string (CA k), .bool (CD k), .int .i64 k0_2, .int .i64 k1_2, .int .i64 k2_2, .string s3_2, .string s4_2, .int .i64 k5_2, .int .i64 k6_2, .int .i64 k7_2, .string s8_2, .slice a9_2 l9_2 c9_2, .slice a10_2 l10_2 c10_2] : List Value) rfl rfl (new_at rfl) (by intro u hu; simp at hu; rcases hu with rfl | rfl | rfl | rfl | rfl | rfl | rfl | rfl | rfl | rfl | rfl | rfl | rfl | rfl | rfl <;> rfl) (by unfold maxLen; omega) (by omega) (by have := HG6.out.1; simp; omega) ?_; intro v7 w7 hown7 hgrow7 _ hat7; have HL7 : Hid (LOwn 74 15 (ClE CK CN CA CD CE) w7 w.heap.size v7 (k + 1)) := LOwn.push (lo1 := lo2) (ClE.keeps CK CN CA CD CE) hE rfl ⟨_, rfl, Ph.V.keep (fun b q => ⟨q.1, by simp; omega⟩) (fun b q => Below.heap_alloc _ _ _ q.2) HE2.out⟩ HLO2.out.1 HOB.out hown7 hgrow7 hat7; have HX7 : Hid (∀ z, z < w6.heap.size → z < w.heap.size → w7.heap[z]? = w6.heap[z]?) := (fun z h1 h2 => (hgrow7.block z (by simp; omega) (fun e => by have := (HL6.out.own z e.symm).1; omega)).trans (Below.heap_alloc _ _ _ h1)); have HG7 : Hid (GrowA pb w w7) := ⟨Nat.le_trans HG6.out.1 (Nat.le_trans (by simp) hgrow7.size), hgrow7.os.trans HG6.out.2.1, hgrow7.tape.trans HG6.out.2.2.1, hgrow7.output.trans HG6.out.2.2.2.1, fun z h1 h2 => (HX7.out z (Nat.lt_of_lt_of_le h1 HG6.out.1) h1).trans (HG6.out.2.2.2.2 z h1 h2)⟩; have HP7 : Hid (PaS w7 pb b c T (ST (k + 1))) := HP6.out.same (Nat.le_trans (by simp) hgrow7.size) (HX7.out pb HP6.out.pl HPW.out) (HX7.out b HP6.out.bl HBW.out); clear ho hE hown7 hgrow7 hat7 HL6 HG6 HP6 HX7))
      go_roundw
      case rel => exact ⟨k + 1, by omega, HP7.out, HG7.out, HL7.out⟩
      case measure =>
       obtain ⟨a7, c7, rfl⟩ := HL7.out.form
       simp [lenV]; omega
  · obtain rfl : k = n := by omega
    go_wp2_with (first
     | (go_at_call 81; have HNX := HP3; refine (word_is _ _).mono ?_; rintro e w4 ⟨rfl, hb⟩; have HP4 : Hid (PaS w4 pb b c T (ST k)) := HP3.out.below hb; have HG4 : Hid (GrowA pb w w4) := HG3.out.below hb; have HL4 : Hid (LOwn 74 15 (ClE CK CN CA CD CE) w4 w.heap.size (.slice la k lc) k) := HL3.out.below (ClE.keeps CK CN CA CD CE) hb; clear hb HNX HP3 HG3 HL3)
     | (go_at_call 69; refine (skip_no HP4.out hT hat _ _ _ H2.out.1).mono ?_; rintro e w5 ⟨rfl, hp, hg⟩; have HP5 : Hid (PaS w5 pb b c T (ST k)) := hp; have HG5 : Hid (GrowA pb w w5) := HG4.out.trans hg; have HL5 : Hid (LOwn 74 15 (ClE CK CN CA CD CE) w5 w.heap.size (.slice la k lc) k) := HL4.out.grow (ClE.keeps CK CN CA CD CE) hg HPW.out; clear hp hg HP4 HG4 HL4)
     | (go_at_call 81; have HNX := HP5; refine (word_is _ _).mono ?_; rintro e w6 ⟨rfl, hb⟩; have HP6 : Hid (PaS w6 pb b c T (ST k)) := HP5.out.below hb; have HG6 : Hid (GrowA pb w w6) := HG5.out.below hb; have HL6 : Hid (LOwn 74 15 (ClE CK CN CA CD CE) w6 w.heap.size (.slice la k lc) k) := HL5.out.below (ClE.keeps CK CN CA CD CE) hb; clear hb HNX HP5 HG5 HL5)
     | (go_at_call 69; refine (skip_no HP6.out hT hat _ _ _ H2.out.2).mono ?_; rintro e w7 ⟨rfl, hp, hg⟩; have HP7 : Hid (PaS w7 pb b c T (ST k)) := hp; have HG7 : Hid (GrowA pb w w7) := HG6.out.trans hg; have HL7 : Hid (LOwn 74 15 (ClE CK CN CA CD CE) w7 w.heap.size (.slice la k lc) k) := HL6.out.grow (ClE.keeps CK CN CA CD CE) hg HPW.out; clear hp hg HP6 HG6 HL6))
    go_ret
    exact ⟨_, HL7.out, rfl, HP7.out, HG7.out⟩
open Go.RowKit
def GrowB (w0 : World) (pb : Nat) (w : World) : Prop := GrowA pb w0 w
theorem GrowB.below {w0 w w' : World} {pb : Nat} (h : GrowB w0 pb w) (hb : Below w.heap.size w w') : GrowB w0 pb w' := GrowA.below h hb
theorem GrowB.allocI {w0 w : World} {pb : Nat} (h : GrowB w0 pb w) (o : Obj) : GrowB w0 pb (w.alloc o) := GrowA.alloc h o
theorem GrowB.grow {w0 w w' : World} {pb : Nat} (h : GrowB w0 pb w) (hg : GrowA pb w w') : GrowB w0 pb w' := GrowA.trans h hg
theorem GrowB.setX {w0 w : World} {pb x : Nat} (h : GrowB w0 pb w) (hx : w0.heap.size ≤ x) (k : Nat) (v : Value) : GrowB w0 pb (w.setCell ⟨x, k, none⟩ v) := GrowA.setR h hx k v
theorem LOwn.setR {T : TypeId} {sz : Nat} {E : Nat → World → (Nat → Prop) → List Value → Prop} (hE : ∀ i, Keeps (E i)) {w : World} {lo r : Nat} {v : Value} {n : Nat} (h : LOwn T sz E w lo v n) (hr : r < lo) (k : Nat) (x : Value) : LOwn T sz E (w.setCell ⟨r, k, none⟩ x) lo v n := h.step hE (by simp) (fun b h1 h2 => Below.heap_setCell _ _ _ _ (by simp; omega))
theorem RunB.use {pb b c : Nat} {T : List Tok} {f : Nat} {st st' : Pst} {n : Nat} {CK : Nat → Int} {CN CA : Nat → ByteArray} {CD : Nat → Bool} {CE : Nat → Ph} (h : RunB pb b c T f st st' n CK CN CA CD CE) {w W : World} {r0 : Nat} (ht : RTab w pb) (hp : PaS W pb b c T st) (hg : GrowA pb w W) (hl : r0 < W.heap.size) :
 Calls Tryz.prog f #[.pointer (some ⟨pb, 0, none⟩)] W fun e w' => ∃ lo v, (r0 < lo ∧ pb < lo ∧ lo ≤ w'.heap.size) ∧ LOwn 74 15 (ClE CK CN CA CD CE) w' lo v n ∧ e = .returned v ∧ PaS w' pb b c T st' ∧ GrowA pb W w' :=
 (h W hp (ht.grow hg)).mono fun e w' ⟨v, h1, h2, h3, h4⟩ => ⟨W.heap.size, v, ⟨hl, hp.pl, h4.1⟩, h1, h2, h3, h4⟩
theorem tre_flwor {w : World} {lo : Nat} {p : Ph} {va vc : Value} {n : Nat} {CK : Nat → Int} {CN CA : Nat → ByteArray} {CD : Nat → Bool} {CE : Nat → Ph} (hA : Phs w lo 1 (fun _ => p) va) (hC : LOwn 74 15 (ClE CK CN CA CD CE) w lo vc n) : Tre w lo (.mk 28 ⟨0, 0, ⟨#[]⟩⟩ ⟨#[]⟩ 0 0 0 ⟨#[]⟩ 1 (fun _ => p) n CK CN CA CD CE) (phL 28 ⟨0, 0, ⟨#[]⟩⟩ ⟨#[]⟩ 0 0 0 ⟨#[]⟩ va vc) := by
 obtain ⟨a, c, h1, h2, h2', h3⟩ := hA
 subst h1
 obtain ⟨a', c', k1, k2, k3, k4⟩ := hC.lies (ClE.keeps CK CN CA CD CE)
 subst k1
 refine ⟨a, c, a', c', rfl, h2, k2, h2', k3, fun hn => ?_, fun hn => ?_⟩
 · obtain ⟨g, q1, q2, q3⟩ := h3 hn
   refine ⟨g, 0, q1, q2, fun i hi => ?_⟩
   obtain ⟨u, r1, r2⟩ := q3 i hi
   rw [Nat.zero_add]
   exact ⟨u, r1, r2⟩
 · obtain ⟨g, q1, q2, q3⟩ := k4 hn
   refine ⟨g, 0, q1, q2, fun i hi => ?_⟩
   obtain ⟨u, r0, r1, x, rfl, r2⟩ := q3 i hi
   rw [Nat.zero_add]
   exact ⟨x, r1, r2⟩
set_option maxHeartbeats 6400000 in
theorem flwor_plain {pb b c : Nat} {T : List Tok} {st s1 s2 s3 : Pst} {p : Ph} {n : Nat} {CK : Nat → Int} {CN CA : Nat → ByteArray} {CD : Nat → Bool} {CE : Nat → Ph} (hT : T.length ≤ 200) (hat : st.at' ≤ 300) (hat1 : s1.at' ≤ 300) (hbi : RunB pb b c T 94 st s1 n CK CN CA CD CE) (nw : eqT (seeM T s1 0) ⟨1, ⟨#[119, 104, 101, 114, 101]⟩, 0⟩ = false) (no : eqT (seeM T s1 0) ⟨1, ⟨#[111, 114, 100, 101, 114]⟩, 0⟩ = false) (hw : wantM T s1 ⟨1, ⟨#[114, 101, 116, 117, 114, 110]⟩, 0⟩ = s2) (hlu : RunT pb b c T 68 #[.pointer (some ⟨pb, 0, none⟩)] s2 s3 p) : RunT pb b c T 82 #[.pointer (some ⟨pb, 0, none⟩)] st s3 (.mk 28 ⟨0, 0, ⟨#[]⟩⟩ ⟨#[]⟩ 0 0 0 ⟨#[]⟩ 1 (fun _ => p) n CK CN CA CD CE) := by
 intro w h htb
 have HTB : Hid (RTab w pb) := htb
 have HLU : Hid (RunT pb b c T 68 #[.pointer (some ⟨pb, 0, none⟩)] s2 s3 p) := hlu
 have HBI : Hid (RunB pb b c T 94 st s1 n CK CN CA CD CE) := hbi
 clear htb hlu hbi
 have hpl := h.pl
 have hbl := h.bl
 go_enter Tryz.func82, Tryz.ntmps82
 go_upto_region 1 with fail
 obtain ⟨W1, hW1⟩ : ∃ W, W = w.alloc (.cells #[.int .i64 0, .int .i64 0, .int .i64 0, .string ⟨#[]⟩, .string ⟨#[]⟩, .int .i64 0, .int .i64 0, .int .i64 0, .string ⟨#[]⟩, .slice none 0 0, .slice none 0 0] 36) := ⟨_, rfl⟩
 have HG1 : Hid (GrowA pb w W1) := by rw [hW1]; exact (GrowA.refl _ _).alloc _
 have HP1 : Hid (PaS W1 pb b c T st) := by rw [hW1]; exact h.allocI _
 have HR1 : Hid (PhZ W1 w.heap.size) := by rw [hW1]; exact PhB.new w _
 rw [← hW1]
 obtain ⟨r, hr⟩ : ∃ r, r = w.heap.size := ⟨_, rfl⟩
 have HRW : Hid (w.heap.size ≤ r) := Nat.le_of_eq hr.symm
 have hrp : r ≠ pb := by omega
 have hrb : r ≠ b := by omega
 rw [← hr] at HR1 ⊢
 clear hW1 hr h hpl hbl
 go_upto_region 2 with (go_at_call 94; refine (HBI.out.use HTB.out HP1.out HG1.out (show r < _ from by have k := HR1.out.lt; first | exact k | (simp; omega))).mono ?_; rintro e w2 ⟨lo0, v, hlo, hv, rfl, hp, hg⟩; obtain ⟨ac, cc, rfl⟩ := hv.form; have HC2 : Hid (LOwn 74 15 (ClE CK CN CA CD CE) w2 lo0 (.slice ac n cc) n) := hv; have hl0 := hlo.1; have hp0 := hlo.2.1; have hz0 := hlo.2.2; have HG2 : Hid (GrowA pb w w2) := HG1.out.trans hg; have HP2 : Hid (PaS w2 pb b c T s1) := hp; have HR2 : Hid (PhZ w2 r) := HR1.out.grow hg hrp; clear hv hlo hp hg HP1 HG1 HR1)
 obtain ⟨W3, hW3⟩ : ∃ W, W = w2.alloc (.cells #[.int .i64 28, .int .i64 0, .int .i64 0, .string ⟨#[]⟩, .string ⟨#[]⟩, .int .i64 0, .int .i64 0, .int .i64 0, .string ⟨#[]⟩, .slice none 0 0, .slice ac n cc] 36) := ⟨_, rfl⟩
 have HP3 : Hid (PaS W3 pb b c T s1) := by rw [hW3]; exact HP2.out.allocI _
 have HG3 : Hid (GrowA pb w W3) := by rw [hW3]; exact HG2.out.alloc _
 have HR3 : Hid (PhZ W3 r) := by rw [hW3]; exact HR2.out.allocI _
 have HX3 : Hid (PhB W3 w2.heap.size #[.int .i64 28, .int .i64 0, .int .i64 0, .string ⟨#[]⟩, .string ⟨#[]⟩, .int .i64 0, .int .i64 0, .int .i64 0, .string ⟨#[]⟩, .slice none 0 0, .slice ac n cc]) := by rw [hW3]; exact PhB.new w2 _
 have HK3 : Hid (GrowB w2 pb W3) := by rw [hW3]; exact GrowA.alloc (GrowA.refl _ _) _
 have hxp : w2.heap.size ≠ pb := by have := HP2.out.pl; omega
 have hxb : w2.heap.size ≠ b := by have := HP2.out.bl; omega
 have hxw : w.heap.size ≤ w2.heap.size := HG2.out.1
 have hrx2 : r < w2.heap.size := HR2.out.lt
 have hrx : r ≠ w2.heap.size := by omega
 rw [← hW3]
 clear hW3 HP2 HG2 HR2
 go_upto_region 8 with (first
  | (go_at_call 81; have HNX := HP3; refine (word_is _ _).mono ?_; rintro e w4 ⟨rfl, hb⟩; have HG4 : Hid (GrowA pb w w4) := (HG3.out.below hb); have HP4 : Hid (PaS w4 pb b c T s1) := (HP3.out.below hb); have HR4 : Hid (PhZ w4 r) := (HR3.out.below hb); have HX4 : Hid (PhB w4 w2.heap.size #[.int .i64 28, .int .i64 0, .int .i64 0, .string ⟨#[]⟩, .string ⟨#[]⟩, .int .i64 0, .int .i64 0, .int .i64 0, .string ⟨#[]⟩, .slice none 0 0, .slice ac n cc]) := (HX3.out.below hb); have HK4 : Hid (GrowB w2 pb w4) := (HK3.out.below hb); clear hb HNX HP3 HG3 HR3 HX3 HK3)
  | (go_at_call 69; (refine (skip_no HP4.out hT hat1 _ _ _ nw).mono ?_); rintro e w5 ⟨rfl, hp, hg⟩; have HG5 : Hid (GrowA pb w w5) := (HG4.out.trans hg); have HP5 : Hid (PaS w5 pb b c T s1) := hp; have HR5 : Hid (PhZ w5 r) := (HR4.out.grow hg hrp); have HX5 : Hid (PhB w5 w2.heap.size #[.int .i64 28, .int .i64 0, .int .i64 0, .string ⟨#[]⟩, .string ⟨#[]⟩, .int .i64 0, .int .i64 0, .int .i64 0, .string ⟨#[]⟩, .slice none 0 0, .slice ac n cc]) := (HX4.out.grow hg hxp); have HK5 : Hid (GrowB w2 pb w5) := (HK4.out.grow hg); clear hp hg HP4 HG4 HR4 HX4 HK4)
  | (go_at_call 81; have HNX := HP5; refine (word_is _ _).mono ?_; rintro e w6 ⟨rfl, hb⟩; have HG6 : Hid (GrowA pb w w6) := (HG5.out.below hb); have HP6 : Hid (PaS w6 pb b c T s1) := (HP5.out.below hb); have HR6 : Hid (PhZ w6 r) := (HR5.out.below hb); have HX6 : Hid (PhB w6 w2.heap.size #[.int .i64 28, .int .i64 0, .int .i64 0, .string ⟨#[]⟩, .string ⟨#[]⟩, .int .i64 0, .int .i64 0, .int .i64 0, .string ⟨#[]⟩, .slice none 0 0, .slice ac n cc]) := (HX5.out.below hb); have HK6 : Hid (GrowB w2 pb w6) := (HK5.out.below hb); clear hb HNX HP5 HG5 HR5 HX5 HK5)
  | (go_at_call 69; (refine (skip_no HP6.out hT hat1 _ _ _ no).mono ?_); rintro e w7 ⟨rfl, hp, hg⟩; have HG7 : Hid (GrowA pb w w7) := (HG6.out.trans hg); have HP7 : Hid (PaS w7 pb b c T s1) := hp; have HR7 : Hid (PhZ w7 r) := (HR6.out.grow hg hrp); have HX7 : Hid (PhB w7 w2.heap.size #[.int .i64 28, .int .i64 0, .int .i64 0, .string ⟨#[]⟩, .string ⟨#[]⟩, .int .i64 0, .int .i64 0, .int .i64 0, .string ⟨#[]⟩, .slice none 0 0, .slice ac n cc]) := (HX6.out.grow hg hxp); have HK7 : Hid (GrowB w2 pb w7) := (HK6.out.grow hg); clear hp hg HP6 HG6 HR6 HX6 HK6)
  | (go_at_call 81; have HNX := HP7; refine (word_is _ _).mono ?_; rintro e w8 ⟨rfl, hb⟩; have HG8 : Hid (GrowA pb w w8) := (HG7.out.below hb); have HP8 : Hid (PaS w8 pb b c T s1) := (HP7.out.below hb); have HR8 : Hid (PhZ w8 r) := (HR7.out.below hb); have HX8 : Hid (PhB w8 w2.heap.size #[.int .i64 28, .int .i64 0, .int .i64 0, .string ⟨#[]⟩, .string ⟨#[]⟩, .int .i64 0, .int .i64 0, .int .i64 0, .string ⟨#[]⟩, .slice none 0 0, .slice ac n cc]) := (HX7.out.below hb); have HK8 : Hid (GrowB w2 pb w8) := (HK7.out.below hb); clear hb HNX HP7 HG7 HR7 HX7 HK7)
  | (go_at_call 96; (refine (want_eq HP8.out hT hat1 hw).mono ?_); rintro e w9 ⟨rfl, hp, hg⟩; have HG9 : Hid (GrowA pb w w9) := (HG8.out.trans hg); have HP9 : Hid (PaS w9 pb b c T s2) := hp; have HR9 : Hid (PhZ w9 r) := (HR8.out.grow hg hrp); have HX9 : Hid (PhB w9 w2.heap.size #[.int .i64 28, .int .i64 0, .int .i64 0, .string ⟨#[]⟩, .string ⟨#[]⟩, .int .i64 0, .int .i64 0, .int .i64 0, .string ⟨#[]⟩, .slice none 0 0, .slice ac n cc]) := (HX8.out.grow hg hxp); have HK9 : Hid (GrowB w2 pb w9) := (HK8.out.grow hg); clear hp hg HP8 HG8 HR8 HX8 HK8)
  | (go_at_call 68; (first | refine (HLU.out.use HTB.out HP9.out HG9.out (show w2.heap.size < _ from by have k := HX9.out.lt; first | exact k | (simp; omega))).mono ?_ | refine (HLU.out.use HTB.out (HP9.out.allocI _) (HG9.out.alloc _) (show w2.heap.size < _ from by have k := HX9.out.lt; first | exact k | (simp; omega))).mono ?_ | refine (HLU.out.use HTB.out ((HP9.out.allocI _).allocI _) ((HG9.out.alloc _).alloc _) (show w2.heap.size < _ from by have k := HX9.out.lt; first | exact k | (simp; omega))).mono ?_); rintro e w10 ⟨lo1, v, hlo, hv, rfl, hp, hg⟩; obtain ⟨k0_1, k1_1, k2_1, k5_1, k6_1, k7_1, s3_1, s4_1, s8_1, a9_1, a10_1, l9_1, c9_1, l10_1, c10_1, rfl⟩ := hv.form; have hlo1 := hlo.1; have hlp1 := hlo.2.1; have hlz1 := hlo.2.2; have HG10 : Hid (GrowA pb w w10) := (HG9.out.trans hg); have HP10 : Hid (PaS w10 pb b c T s3) := hp; have HR10 : Hid (PhZ w10 r) := (HR9.out.grow hg hrp); have HX10 : Hid (PhB w10 w2.heap.size #[.int .i64 28, .int .i64 0, .int .i64 0, .string ⟨#[]⟩, .string ⟨#[]⟩, .int .i64 0, .int .i64 0, .int .i64 0, .string ⟨#[]⟩, .slice none 0 0, .slice ac n cc]) := (HX9.out.grow hg hxp); have HK10 : Hid (GrowB w2 pb w10) := (HK9.out.grow hg); have HV1_10 : Hid (Tre w10 lo1 p [.int .i64 k0_1, .int .i64 k1_1, .int .i64 k2_1, .string s3_1, .string s4_1, .int .i64 k5_1, .int .i64 k6_1, .int .i64 k7_1, .string s8_1, .slice a9_1 l9_1 c9_1, .slice a10_1 l10_1 c10_1]) := hv; obtain ⟨⟨m0, m1, m2, m3, m4, m5, m6, m7, m8, m9, m10⟩, j0, j1, j2, j3, j4, j5, j6, j7, j8, j9, j10⟩ := HX10.out.cells; have hxz := HX10.out.lt; have hrz := HR10.out.lt; clear hv hlo hp hg HP9 HG9 HR9 HX9 HK9))
 obtain ⟨W11, hW11⟩ : ∃ W, W = (w10.setCell ⟨w2.heap.size, 9, none⟩ (.slice (some ⟨w10.heap.size, 0, none⟩) 1 1)).alloc (.cells #[.int .i64 k0_1, .int .i64 k1_1, .int .i64 k2_1, .string s3_1, .string s4_1, .int .i64 k5_1, .int .i64 k6_1, .int .i64 k7_1, .string s8_1, .slice a9_1 l9_1 c9_1, .slice a10_1 l10_1 c10_1] 36) := ⟨_, rfl⟩
 have HP11 : Hid (PaS W11 pb b c T s3) := by rw [hW11]; exact (HP10.out.setR hxp hxb 9 _).allocI _
 have HG11 : Hid (GrowA pb w W11) := by rw [hW11]; exact (HG10.out.setR hxw 9 _).alloc _
 have HR11 : Hid (PhZ W11 r) := by rw [hW11]; exact (HR10.out.setO hrx 9 _).allocI _
 have HX11 : Hid (PhB W11 w2.heap.size #[.int .i64 28, .int .i64 0, .int .i64 0, .string ⟨#[]⟩, .string ⟨#[]⟩, .int .i64 0, .int .i64 0, .int .i64 0, .string ⟨#[]⟩, .slice (some ⟨w10.heap.size, 0, none⟩) 1 1, .slice ac n cc]) := by rw [hW11]; exact (HX10.out.setAt 9 (.slice (some ⟨w10.heap.size, 0, none⟩) 1 1)).allocI _
 have HK11 : Hid (GrowB w2 pb W11) := by rw [hW11]; exact (HK10.out.setX (Nat.le_refl _) 9 _).allocI _
 have HA11 : Hid (Phs W11 lo0 1 (fun _ => p) (.slice (some ⟨w10.heap.size, 0, none⟩) 1 1)) := by rw [hW11]; exact (phs_at (by simp) (HV1_10.out.setR hlo1 9 _) hlz1 rfl).mono (by omega)
 have HC11 : Hid (LOwn 74 15 (ClE CK CN CA CD CE) W11 lo0 (.slice ac n cc) n) := HC2.out.grow (ClE.keeps CK CN CA CD CE) HK11.out hp0
 rw [← hW11]
 clear hW11 HP10 HG10 HR10 HX10 HV1_10 HK10 HC2 hxz hrz m0 j0 m1 j1 m2 j2 m3 j3 m4 j4 m5 j5 m6 j6 m7 j7 m8 j8 m9 j9 m10 j10
 obtain ⟨⟨y0, y1, y2, y3, y4, y5, y6, y7, y8, y9, y10⟩, z0, z1, z2, z3, z4, z5, z6, z7, z8, z9, z10⟩ := HR11.out.cells
 obtain ⟨⟨m0, m1, m2, m3, m4, m5, m6, m7, m8, m9, m10⟩, j0, j1, j2, j3, j4, j5, j6, j7, j8, j9, j10⟩ := HX11.out.cells
 go_wp2
 refine bodyPost_ret (v := .agg #[.int .i64 28, .int .i64 0, .int .i64 0, .string ⟨#[]⟩, .string ⟨#[]⟩, .int .i64 0, .int .i64 0, .int .i64 0, .string ⟨#[]⟩, .slice (some ⟨w10.heap.size, 0, none⟩) 1 1, .slice ac n cc]) (by simp [results, Tryz.results82, go_sem, y0, y1, y2, y3, y4, y5, y6, y7, y8, y9, y10]) rfl ⟨[.int .i64 28, .int .i64 0, .int .i64 0, .string ⟨#[]⟩, .string ⟨#[]⟩, .int .i64 0, .int .i64 0, .int .i64 0, .string ⟨#[]⟩, .slice (some ⟨w10.heap.size, 0, none⟩) 1 1, .slice ac n cc], ?_, rfl, ?_, ?_⟩
 · refine Tre.mono (lo := lo0) ?_ (by have := HRW.out; omega)
   refine tre_flwor (va := .slice (some ⟨w10.heap.size, 0, none⟩) 1 1) (vc := .slice ac n cc) ?_ ?_
   · (repeat (first | with_reducible refine Phs.setR ?_ hl0 _ _ | with_reducible refine Phs.allocI ?_ _ | with_reducible exact HA11.out))
   · (repeat (first | with_reducible refine LOwn.setR (ClE.keeps CK CN CA CD CE) ?_ hl0 _ _ | with_reducible exact HC11.out))
 · (repeat (first | with_reducible refine PaS.setR ?_ hrp hrb _ _ | with_reducible refine PaS.allocI ?_ _ | exact HP11.out))
 · (repeat (first | with_reducible refine GrowA.setR ?_ HRW.out _ _ | with_reducible refine GrowA.alloc ?_ _ | exact HG11.out))
open Go.RowKit
theorem PaS.new {w : World} {b c : Nat} {T : List Tok} (hb : b < w.heap.size) (ht : ToksL w b T) : PaS (w.alloc (.cells #[.slice (some ⟨b, 0, none⟩) T.length c, .int .i64 0, .int .i64 0, .int .i64 0] 56)) w.heap.size b c T ⟨0, 0, 0⟩ :=
 ⟨by simp, by simp, by simp, by simp, by simp, by simp, by simp, by simp, by simp; omega, by omega, ht.grow ((GrowA.refl (w.heap.size) w).alloc _) hb (by omega)⟩
theorem ToksL.below {w w' : World} {b : Nat} {L : List Tok} (h : ToksL w b L) (hb : Below w.heap.size w w') (hlt : b < w.heap.size) : ToksL w' b L := fun k hk => by
 obtain ⟨h1, h2, h3⟩ := h k hk
 exact ⟨(hb.cell (p := ⟨b, k * 3, none⟩) hlt).trans h1, (hb.cell (p := ⟨b, k * 3 + 1, none⟩) hlt).trans h2, (hb.cell (p := ⟨b, k * 3 + 2, none⟩) hlt).trans h3⟩
def Tab3 (w : World) : Prop := OpTab w ∧ KtTab w ∧ AxTab w
theorem Tab3.below {w w' : World} (h : Tab3 w) (hb : Below w.heap.size w w') : Tab3 w' := ⟨h.1.below hb, h.2.1.below hb, h.2.2.below hb⟩
theorem Tab3.rtab {w : World} {pb n : Nat} (h : Tab3 w) (hn : 5 < n ∧ 9 < n ∧ 8 < n) (hp : n ≤ pb) : RTab w pb := ⟨h.1, h.2.1, h.2.2, by omega, by omega, by omega⟩
theorem Tab3.lt {w : World} (h : Tab3 w) : 5 < w.heap.size ∧ 9 < w.heap.size ∧ 8 < w.heap.size := by
 obtain ⟨⟨t1, f1, h1⟩, ⟨t2, f2, h2⟩, ⟨t3, f3, h3⟩⟩ := h
 exact ⟨(Array.getElem?_eq_some_iff.1 h1).1, (Array.getElem?_eq_some_iff.1 h2).1, (Array.getElem?_eq_some_iff.1 h3).1⟩
def GoodT (T : List Tok) : Prop := ∀ t ∈ T, tokF t.kind t.s t.n = 0 ∧ t.s.size ≤ 4000
set_option maxHeartbeats 3200000 in
theorem parse_good (T : List Tok) (p : Ph) (o : Nat) (b c : Nat) (hT : T.length ≤ 200) (hG : GoodT T) (hrun : ∀ pb b c, RunT pb b c T 18 #[.pointer (some ⟨pb, 0, none⟩)] ⟨0, 0, 0⟩ ⟨T.length, o, 0⟩ p) (w : World) (hb : b < w.heap.size) (ht : ToksL w b T) (hot : Tab3 w) (hTb : Tabs w) (hM : MarkTab w) (hg : 0 < w.heap.size) :
 Calls Tryz.prog 9 #[.slice (some ⟨b, 0, none⟩) T.length c] w fun e w' => ∃ v, Tre w' w.heap.size p v ∧ e = .returned (.tuple #[.agg v.toArray, .int .i64 0, .int .i64 0]) ∧ Below w.heap.size w w' := by
 have CK : Hid (∀ W kd s n, Below w.heap.size w W → tokF kd s n = 0 → s.size ≤ 4000 → Calls Tryz.prog 17 #[.agg #[.int .i64 kd, .string s, .int .i64 n]] W fun e w' => e = .returned (.int .i64 0) ∧ Below W.heap.size W w') := fun W kd s n hW ht hs => (checkToken_any kd n s W (by unfold maxLen; omega) (Utf8Tabs_below hTb hW) (hM.below hW hg) (Nat.lt_of_lt_of_le hg hW.size)).mono fun e w' ⟨k1, k2⟩ => ⟨by rw [k1, ht], k2⟩
 have HTK : Hid (ToksL w b T) := ht
 have HOT : Hid (Tab3 w) := hot
 have HGD : Hid (∀ j (h : j < T.length), ∃ kd s n, T[j] = ⟨kd, s, n⟩ ∧ tokF kd s n = 0 ∧ s.size ≤ 4000) := fun j h => ⟨T[j].kind, T[j].s, T[j].n, rfl, (hG _ (List.getElem_mem h)).1, (hG _ (List.getElem_mem h)).2⟩
 have hol := hot.lt
 have HRR := HidOf hrun
 have hl200 : ¬ ((200 : Int) < (T.length : Int)) := by omega
 clear ht hot hTb hM hg hrun hG
 go_enter Tryz.func9, Tryz.ntmps9
 go_wp2
 obtain ⟨W1, hW1⟩ : ∃ W, W = w.alloc (.cells #[.int .i64 0, .int .i64 0, .int .i64 0, .string ⟨#[]⟩, .string ⟨#[]⟩, .int .i64 0, .int .i64 0, .int .i64 0, .string ⟨#[]⟩, .slice none 0 0, .slice none 0 0] 36) := ⟨_, rfl⟩
 have HB1 : Hid (Below w.heap.size w W1) := by rw [hW1]; exact (Below.refl _ _).alloc (Nat.le_refl _) _
 have HR1 : Hid (PhZ W1 w.heap.size) := by rw [hW1]; exact PhB.new w _
 rw [← hW1]
 obtain ⟨r, hr⟩ : ∃ r, r = w.heap.size := ⟨_, rfl⟩
 have HRW : Hid (r = w.heap.size) := hr
 rw [← hr] at HR1 ⊢
 clear hW1 hr
 go_loopw [16] (fun i wr => ∃ j : Nat, j ≤ T.length ∧ i = .int .i64 j ∧ Below W1.heap.size W1 wr) (fun i _ => T.length - (intOf i).toNat)
 case atStart => exact ⟨0, Nat.zero_le _, rfl, Below.refl _ _⟩
 case round =>
  obtain ⟨j, hj, rfl, hbw⟩ := hrel
  have HBW : Hid (Below W1.heap.size W1 wr) := hbw
  have HBA : Hid (Below w.heap.size w wr) := HB1.out.trans (hbw.mono HB1.out.size)
  clear hbw
  by_cases hlt : j < T.length
  · obtain ⟨x0, x1, x2⟩ := (HTK.out.below HBA.out hb) j hlt
    obtain ⟨kd, s, n, e1, e2, e3⟩ := HGD.out j hlt
    rw [e1] at x0 x1 x2
    simp only at x0 x1 x2
    have hji : (j : Int) < (T.length : Int) := by omega
    have hbr : b < wr.heap.size := Nat.lt_of_lt_of_le hb HBA.out.size
    have C3 : Hid (∀ o, Calls Tryz.prog 17 #[.agg #[.int .i64 kd, .string s, .int .i64 n]] (wr.alloc o) fun e w' => e = .returned (.int .i64 0) ∧ Below W1.heap.size W1 w') := fun o => (CK.out (wr.alloc o) kd s n (HBA.out.alloc HBA.out.size o) e2 e3).mono fun e w' ⟨k1, k2⟩ => ⟨k1, (HBW.out.alloc HBW.out.size o).trans (k2.mono (by have := HBW.out.size; simp; omega))⟩
    clear e1 e2 e3
    go_wp2_with (first
     | (go_at_call 17; refine (C3.out _).mono ?_; rintro e w3 ⟨rfl, hb3⟩; have HB3 : Hid (Below W1.heap.size W1 w3) := hb3; clear hb3))
    go_roundw
    case rel => exact ⟨j + 1, by omega, by go_num, HB3.out⟩
    case measure => simp [intOf]; omega
  · have hji : ¬ ((j : Int) < (T.length : Int)) := by omega
    go_upto_region 11 with fail
    obtain ⟨WP, hWP⟩ : ∃ W, W = wr.alloc (.cells #[.slice (some ⟨b, 0, none⟩) T.length c, .int .i64 0, .int .i64 0, .int .i64 0] 56) := ⟨_, rfl⟩
    obtain ⟨pb, hpb⟩ : ∃ p, p = wr.heap.size := ⟨_, rfl⟩
    have hrp : r ≠ pb := by have k1 := HRW.out; have k2 := (HR1.out.below HBW.out).lt; omega
    have hrl0 : r < pb := by rw [hpb]; exact (HR1.out.below HBW.out).lt
    have hrb : r ≠ b := by have k1 := HRW.out; omega
    have hwp : w.heap.size ≤ pb := by rw [hpb]; exact HBA.out.size
    have HP1 : Hid (PaS WP pb b c T ⟨0, 0, 0⟩) := by rw [hWP, hpb]; exact PaS.new (Nat.lt_of_lt_of_le hb HBA.out.size) (HTK.out.below HBA.out hb)
    have HO1 : Hid (RTab WP pb) := by rw [hWP]; exact ((HOT.out.below HBA.out).below ((Below.refl _ _).alloc (Nat.le_refl _) _)).rtab hol hwp
    have HR2 : Hid (PhZ WP r) := by rw [hWP]; exact (HR1.out.below HBW.out).allocI _
    have HBP : Hid (Below w.heap.size w WP) := by rw [hWP]; exact HBA.out.alloc HBA.out.size _
    have hpz : pb ≤ WP.heap.size := Nat.le_of_lt HP1.out.pl
    rw [← hWP, ← hpb]
    clear hWP hpb HR1 HBW HBA
    have CL : Hid (Calls Tryz.prog 18 #[.pointer (some ⟨pb, 0, none⟩)] WP fun e w' => ∃ v, Tre w' WP.heap.size p v ∧ e = .returned (.agg v.toArray) ∧ PaS w' pb b c T ⟨T.length, o, 0⟩ ∧ GrowA pb WP w') := HRR.out pb b c WP HP1.out HO1.out
    go_wp2_with (first
     | (go_at_call 18; refine CL.out.mono ?_; rintro e w2 ⟨v, hv, rfl, hp, hg⟩; obtain ⟨k0_1, k1_1, k2_1, k5_1, k6_1, k7_1, s3_1, s4_1, s8_1, a9_1, a10_1, l9_1, c9_1, l10_1, c10_1, rfl⟩ := hv.form; have HV2 : Hid (Tre w2 WP.heap.size p [.int .i64 k0_1, .int .i64 k1_1, .int .i64 k2_1, .string s3_1, .string s4_1, .int .i64 k5_1, .int .i64 k6_1, .int .i64 k7_1, .string s8_1, .slice a9_1 l9_1 c9_1, .slice a10_1 l10_1 c10_1]) := hv; have HB2 : Hid (Below w.heap.size w w2) := (HBP.out.trans ((hg.low hpz).mono hwp)); have hx1 := hp.a; have hx3 := hp.e; have hpl := hp.pl; obtain ⟨⟨y0, y1, y2, y3, y4, y5, y6, y7, y8, y9, y10⟩, z0, z1, z2, z3, z4, z5, z6, z7, z8, z9, z10⟩ := (HR2.out.grow hg hrp).cells; have hrl := (HR2.out.grow hg hrp).lt; clear hv hp hg))
    refine bodyPost_ret (v := .tuple #[.agg #[.int .i64 k0_1, .int .i64 k1_1, .int .i64 k2_1, .string s3_1, .string s4_1, .int .i64 k5_1, .int .i64 k6_1, .int .i64 k7_1, .string s8_1, .slice a9_1 l9_1 c9_1, .slice a10_1 l10_1 c10_1], .int .i64 0, .int .i64 0]) (by simp [results, Tryz.results9, go_sem, hrl, y0, y1, y2, y3, y4, y5, y6, y7, y8, y9, y10]) rfl ⟨[.int .i64 k0_1, .int .i64 k1_1, .int .i64 k2_1, .string s3_1, .string s4_1, .int .i64 k5_1, .int .i64 k6_1, .int .i64 k7_1, .string s8_1, .slice a9_1 l9_1 c9_1, .slice a10_1 l10_1 c10_1], ?_, rfl, ?_⟩
    · refine Tre.mono (lo := WP.heap.size) ?_ (Nat.le_trans hwp hpz)
      (repeat (first | with_reducible refine Tre.allocI ?_ _ | with_reducible refine Tre.setR ?_ (Nat.lt_of_lt_of_le hrl0 hpz) _ _ | with_reducible exact HV2.out))
    · (first | (with_reducible refine Below.alloc ?_ (by have := HB2.out.size; simp; omega) _) | skip)
      repeat with_reducible refine below_setA ?_ (Nat.le_of_eq HRW.out.symm) _ _
      with_reducible exact HB2.out
open Go.RowKit
def tkA (T : List Tok) (i : Nat) : Tok := T.getD i tok0
theorem see0 {T : List Tok} {a o k : Nat} : seeM T ⟨a, o, 0⟩ k = tkA T (a + k) := by
 unfold seeM tkA
 split
 · rename_i h
   rcases h with h | h
   · exact absurd rfl h
   · rw [List.getD_eq_getElem?_getD, List.getElem?_eq_none h]; rfl
 · rfl
theorem ent0 {T : List Tok} {a o : Nat} {g : Bool} (h : o < 30) : enterM T ⟨a, o, 0⟩ g = ⟨a, o + 1, 0⟩ := by
 unfold enterM
 simp only
 rw [if_neg (by omega)]
theorem want0 {T : List Tok} {a o : Nat} {t : Tok} (h : eqT (tkA T a) t = true) : wantM T ⟨a, o, 0⟩ t = ⟨a + 1, o, 0⟩ := by
 unfold wantM skipM
 rw [show seeM T ⟨a, o, 0⟩ 0 = tkA T a from see0]
 rw [if_pos h]
 rfl
def litN (n : Int) : Ph := ph0 1 ⟨2, n, ⟨#[]⟩⟩ ⟨#[]⟩ 0 0 0 ⟨#[]⟩
open Go.RowKit
theorem eqT_kind {k k' n n' : Int} {s s' : ByteArray} (h : k ≠ k') : eqT ⟨k, s, n⟩ ⟨k', s', n'⟩ = false := by
 unfold eqT
 rw [decide_eq_false h]; rfl
theorem eqT_self {u : Tok} : eqT u u = true := by simp [eqT]
def goG (N : Nat → ByteArray) (V : Nat → Int) (e : Int) (s : ByteArray) : Nat → Nat → Int
 | 0, _ => e
 | n + 1, k => if ((N k).data.toList == s.data.toList) = true then V k else goG N V e s n (k + 1)
theorem goG_eq {N : Nat → ByteArray} {V : Nat → Int} {e : Int} {s : ByteArray} : ∀ (n k : Nat), goF N V e s n k = goG N V e s n k
 | 0, _ => rfl
 | n + 1, k => by simp only [goF, goG, ByteArray.toList_eq, goG_eq n (k + 1)]
def callG (s : ByteArray) : Bool := !(eqT ⟨1, s, 0⟩ ⟨1, ⟨#[101, 108, 101, 109, 101, 110, 116]⟩, 0⟩) && (!(eqT ⟨1, s, 0⟩ ⟨1, ⟨#[97, 116, 116, 114, 105, 98, 117, 116, 101]⟩, 0⟩) && (!(eqT ⟨1, s, 0⟩ ⟨1, ⟨#[116, 101, 120, 116]⟩, 0⟩) && (goG ktN (fun k => (k : Int)) 0 s 4 0 == 0)))
def callN (s : ByteArray) : Bool := !(eqT ⟨1, s, 0⟩ ⟨1, ⟨#[101, 108, 101, 109, 101, 110, 116]⟩, 0⟩) && (!(eqT ⟨1, s, 0⟩ ⟨1, ⟨#[97, 116, 116, 114, 105, 98, 117, 116, 101]⟩, 0⟩) && (!(eqT ⟨1, s, 0⟩ ⟨1, ⟨#[116, 101, 120, 116]⟩, 0⟩) && (ktOf s == 0)))
theorem callG_eq (s : ByteArray) : callN s = callG s := by unfold callN callG ktOf; rw [goG_eq]
open Go.RowKit
open Go.RowKit Go.WideShapes
theorem ToksOwn.lies {w : World} {base : Nat} {v : Value} {L : List Tok} (h : ToksOwn w base v L) (h0 : 0 < L.length) : ∃ b c, v = .slice (some ⟨b, 0, none⟩) L.length c ∧ b < w.heap.size ∧ ToksL w b L := by
 obtain ⟨b, c, rfl, h1, h2, _⟩ := h.at 0 h0
 refine ⟨b, c, rfl, h1, fun k hk => ?_⟩
 obtain ⟨b', c', he, _, _, h3⟩ := h.at k hk
 simp only [Value.slice.injEq, Option.some.injEq, Addr.mk.injEq, true_and, and_true] at he
 obtain ⟨rfl, rfl⟩ := he
 exact h3
theorem ToksL.allocI {w : World} {b : Nat} {L : List Tok} (h : ToksL w b L) (hb : b < w.heap.size) (o : Obj) : ToksL (w.alloc o) b L := h.below ((Below.refl _ _).alloc (Nat.le_refl _) _) hb
end Go.Proofs.YtbnlekhjgkojlaaGreatDoor
