/-
  THE PARSER's bindings.
-/
import Derived.Test.YtcbpjgnbdpfiiaaGreatDoorPtFor
import Derived.Sort.AtCall
set_option linter.unusedVariables false
namespace Go.Proofs.YtcbpjgnbdpfiiaaGreatDoor
set_option maxRecDepth 100000
open Go.RowKit

/-- clauses as elements -/
def ClE (CK : Nat → Int) (CN CA : Nat → ByteArray) (CD : Nat → Bool) (CE : Nat → Ph) (i : Nat) (w : World) (S : Nat → Prop) (u : List Value) : Prop := ∃ x, u = [.int .i64 (CK i), .string (CN i), .string (CA i), .bool (CD i)] ++ x ∧ (CE i).V w S x
theorem ClE.keeps (CK : Nat → Int) (CN CA : Nat → ByteArray) (CD : Nat → Bool) (CE : Nat → Ph) : ∀ i, Keeps (ClE CK CN CA CD CE i) := fun i w w' S S' u h1 h2 h3 => by
  obtain ⟨x, q1, q2⟩ := h3
  exact ⟨x, q1, Ph.V.keep h1 h2 q2⟩
theorem infoCla : (Tryz.prog.info? 140).map (fun i => (i.zero, i.size, i.bytes)) = some (some (.agg #[.int .i64 0, .string ByteArray.empty, .string ByteArray.empty, .bool false, .int .i64 0, .int .i64 0, .int .i64 0, .string ByteArray.empty, .string ByteArray.empty, .int .i64 0, .int .i64 0, .int .i64 0, .string ByteArray.empty, .slice none 0 0, .slice none 0 0]), 15, 192) := by kernel_rfl
/-- a rule of a function that answers clauses -/
def RunB (pb b c : Nat) (T : List Tok) (f : Nat) (st st' : Pst) (n : Nat) (CK : Nat → Int) (CN CA : Nat → ByteArray) (CD : Nat → Bool) (CE : Nat → Ph) : Prop := ∀ (w : World), PaS w pb b c T st → RTab w pb → Calls Tryz.prog f #[.pointer (some ⟨pb, 0, none⟩)] w fun e w' => ∃ v, LOwn 140 15 (ClE CK CN CA CD CE) w' w.heap.size v n ∧ e = .returned v ∧ PaS w' pb b c T st' ∧ GrowA pb w w'
set_option maxHeartbeats 3200000 in
theorem bindings_is {pb b c : Nat} {T : List Tok} {n : Nat} {CK : Nat → Int} {CN CA : Nat → ByteArray} {CD : Nat → Bool} {CE : Nat → Ph} {ST : Nat → Pst} {FK : Nat → Bool} (hT : T.length ≤ 200) (hn2 : n ≤ 1000) (hS : ∀ k, k ≤ n → (ST k).at' ≤ 299)
    (hf : ∀ k, k < n → FK k = true → eqT (seeM T (ST k) 0) ⟨1, ⟨#[102, 111, 114]⟩, 0⟩ = true ∧ RunC pb b c T 152 { ST k with at' := (ST k).at' + 1 } (ST (k + 1)) (CK k) (CN k) (CA k) (CD k) (CE k))
    (hl : ∀ k, k < n → FK k = false → (eqT (seeM T (ST k) 0) ⟨1, ⟨#[102, 111, 114]⟩, 0⟩ = false ∧ eqT (seeM T (ST k) 0) ⟨1, ⟨#[108, 101, 116]⟩, 0⟩ = true) ∧ RunC pb b c T 153 { ST k with at' := (ST k).at' + 1 } (ST (k + 1)) (CK k) (CN k) (CA k) (CD k) (CE k))
    (h2 : eqT (seeM T (ST n) 0) ⟨1, ⟨#[102, 111, 114]⟩, 0⟩ = false ∧ eqT (seeM T (ST n) 0) ⟨1, ⟨#[108, 101, 116]⟩, 0⟩ = false) : RunB pb b c T 137 (ST 0) (ST n) n CK CN CA CD CE := by
  intro w h htb
  have HTB : Hid (RTab w pb) := htb
  have HF := HidOf hf
  have HLE := HidOf hl
  have H2 := HidOf h2
  have HSS := HidOf hS
  have HPW : Hid (pb < w.heap.size) := h.pl
  have HBW : Hid (b < w.heap.size) := h.bl
  have HP1 : Hid (PaS w pb b c T (ST 0)) := h
  obtain ⟨i0, hi0, hz0, hz1, hz2⟩ := info_parts infoCla
  clear htb hf hl h2 hS h
  go_enter Tryz.func137, Tryz.ntmps137
  go_wp2
  go_loopw [3] (fun lv wr => ∃ k, k ≤ n ∧ PaS wr pb b c T (ST k) ∧ GrowA pb w wr ∧ LOwn 140 15 (ClE CK CN CA CD CE) wr w.heap.size lv k) (fun lv _ => n - lenV lv)
  case atStart => exact ⟨0, Nat.zero_le _, HP1.out, GrowA.refl _ _, LOwn.nil _ _ _ _ _⟩
  case round =>
    obtain ⟨k, hkn, hp, hg, hlw⟩ := hrel
    have HP3 : Hid (PaS wr pb b c T (ST k)) := hp
    have HG3 : Hid (GrowA pb w wr) := hg
    obtain ⟨la, lc, rfl⟩ := hlw.form
    have HL3 : Hid (LOwn 140 15 (ClE CK CN CA CD CE) wr w.heap.size (.slice la k lc) k) := hlw
    have hat : (ST k).at' ≤ 300 := by have := HSS.out k hkn; omega
    clear hp hg hlw HP1
    by_cases hlt : k < n
    · cases hfk : FK k
      · have HC := HidOf (HLE.out k hlt hfk).1
        have HS1 := HidOf (HLE.out k hlt hfk).2
        go_wp2_with (first
          | (go_at_call 117; have HNX := HP3; refine (word_is _ _).mono ?_; rintro e w4 ⟨rfl, hb⟩; have HP4 : Hid (PaS w4 pb b c T (ST k)) := HP3.out.below hb; have HG4 : Hid (GrowA pb w w4) := HG3.out.below hb; have HL4 : Hid (LOwn 140 15 (ClE CK CN CA CD CE) w4 w.heap.size (.slice la k lc) k) := HL3.out.below (ClE.keeps CK CN CA CD CE) hb; clear hb HNX HP3 HG3 HL3)
          | (go_at_call 74; refine (skip_no HP4.out hT hat _ _ _ HC.out.1).mono ?_; rintro e w5 ⟨rfl, hp, hg⟩; have HP5 : Hid (PaS w5 pb b c T (ST k)) := hp; have HG5 : Hid (GrowA pb w w5) := HG4.out.trans hg; have HL5 : Hid (LOwn 140 15 (ClE CK CN CA CD CE) w5 w.heap.size (.slice la k lc) k) := HL4.out.grow (ClE.keeps CK CN CA CD CE) hg HPW.out; clear hp hg HP4 HG4 HL4)
          | (go_at_call 117; have HNX := HP5; refine (word_is _ _).mono ?_; rintro e w6 ⟨rfl, hb⟩; have HP6 : Hid (PaS w6 pb b c T (ST k)) := HP5.out.below hb; have HG6 : Hid (GrowA pb w w6) := HG5.out.below hb; have HL6 : Hid (LOwn 140 15 (ClE CK CN CA CD CE) w6 w.heap.size (.slice la k lc) k) := HL5.out.below (ClE.keeps CK CN CA CD CE) hb; clear hb HNX HP5 HG5 HL5)
          | (go_at_call 74; refine (skip_yes HP6.out hT hat _ _ _ HC.out.2).mono ?_; rintro e w7 ⟨rfl, hp, hg⟩; have HP7 : Hid (PaS w7 pb b c T { ST k with at' := (ST k).at' + 1 }) := hp; have HG7 : Hid (GrowA pb w w7) := HG6.out.trans hg; have HL7 : Hid (LOwn 140 15 (ClE CK CN CA CD CE) w7 w.heap.size (.slice la k lc) k) := HL6.out.grow (ClE.keeps CK CN CA CD CE) hg HPW.out; clear hp hg HP6 HG6 HL6)
          | (go_at_call 153; refine (HS1.out.use HTB.out HP7.out HG7.out).mono ?_; rintro e w8 ⟨lo2, k0_2, k1_2, k2_2, k5_2, k6_2, k7_2, s3_2, s4_2, s8_2, a9_2, a10_2, l9_2, c9_2, l10_2, c10_2, hlo, hv, rfl, hp, hg⟩; have HE2 := HidOf hv; have HOB : Hid (∀ z, (Value.slice la k lc).ownBlock = some z → z < lo2) := (fun z hz => by rw [hlo.2.2.2]; exact (HL7.out.own z hz).2); have HLO2 := HidOf hlo; have HG8 : Hid (GrowA pb w w8) := HG7.out.trans hg; have HP8 : Hid (PaS w8 pb b c T (ST (k + 1))) := hp; have HL8 : Hid (LOwn 140 15 (ClE CK CN CA CD CE) w8 w.heap.size (.slice la k lc) k) := HL7.out.grow (ClE.keeps CK CN CA CD CE) hg HPW.out; clear hv hlo hp hg HP7 HG7 HL7)
          | (at_builtin; obtain ⟨L, ho, hE⟩ := HL8.out.below (ClE.keeps CK CN CA CD CE) ((Below.refl _ _).alloc (Nat.le_refl _) (.cells #[.int .i64 (CK k), .string (CN k), .string (CA k), .bool (CD k), .int .i64 k0_2, .int .i64 k1_2, .int .i64 k2_2, .string s3_2, .string s4_2, .int .i64 k5_2, .int .i64 k6_2, .int .i64 k7_2, .string s8_2, .slice a9_2 l9_2 c9_2, .slice a10_2 l10_2 c10_2] 140)); refine wpList_append_own_at _ rfl (.tmp 18) (.tmp 21) 36 rfl w.heap.size 140 i0 _ 15 192 Tryz.underlying36 hi0 hz0 hz1 hz2 rfl (by decide) _ _ _ rfl ho ⟨w8.heap.size, 0, none⟩ 1 1 ([.int .i64 (CK k), .string (CN k), .string (CA k), .bool (CD k), .int .i64 k0_2, .int .i64 k1_2, .int .i64 k2_2, .string s3_2, .string s4_2, .int .i64 k5_2, .int .i64 k6_2, .int .i64 k7_2, .string s8_2, .slice a9_2 l9_2 c9_2, .slice a10_2 l10_2 c10_2] : List Value) rfl rfl (new_at rfl) (by intro u hu; simp at hu; rcases hu with rfl | rfl | rfl | rfl | rfl | rfl | rfl | rfl | rfl | rfl | rfl | rfl | rfl | rfl | rfl <;> rfl) (by unfold maxLen; omega) (by omega) (by have := HG8.out.1; simp; omega) ?_; intro v7 w9 hown7 hgrow7 _ hat7; have HL9 : Hid (LOwn 140 15 (ClE CK CN CA CD CE) w9 w.heap.size v7 (k + 1)) := LOwn.push (lo1 := lo2) (ClE.keeps CK CN CA CD CE) hE rfl ⟨_, rfl, Ph.V.keep (fun b q => ⟨q.1, by simp; omega⟩) (fun b q => Below.heap_alloc _ _ _ q.2) HE2.out⟩ HLO2.out.1 HOB.out hown7 hgrow7 hat7; have HX7 : Hid (∀ z, z < w8.heap.size → z < w.heap.size → w9.heap[z]? = w8.heap[z]?) := (fun z h1 h2 => (hgrow7.block z (by simp; omega) (fun e => by have := (HL8.out.own z e.symm).1; omega)).trans (Below.heap_alloc _ _ _ h1)); have HG9 : Hid (GrowA pb w w9) := ⟨Nat.le_trans HG8.out.1 (Nat.le_trans (by simp) hgrow7.size), hgrow7.os.trans HG8.out.2.1, hgrow7.tape.trans HG8.out.2.2.1, hgrow7.output.trans HG8.out.2.2.2.1, fun z h1 h2 => (HX7.out z (Nat.lt_of_lt_of_le h1 HG8.out.1) h1).trans (HG8.out.2.2.2.2 z h1 h2)⟩; have HP9 : Hid (PaS w9 pb b c T (ST (k + 1))) := HP8.out.same (Nat.le_trans (by simp) hgrow7.size) (HX7.out pb HP8.out.pl HPW.out) (HX7.out b HP8.out.bl HBW.out); clear ho hE hown7 hgrow7 hat7 HL8 HG8 HP8 HX7))
        go_roundw
        case rel => exact ⟨k + 1, by omega, HP9.out, HG9.out, HL9.out⟩
        case measure =>
          obtain ⟨a7, c7, rfl⟩ := HL9.out.form
          simp [lenV]; omega
      · have HC := HidOf (HF.out k hlt hfk)
        have HS1 := HidOf (HF.out k hlt hfk).2
        go_wp2_with (first
          | (go_at_call 117; have HNX := HP3; refine (word_is _ _).mono ?_; rintro e w4 ⟨rfl, hb⟩; have HP4 : Hid (PaS w4 pb b c T (ST k)) := HP3.out.below hb; have HG4 : Hid (GrowA pb w w4) := HG3.out.below hb; have HL4 : Hid (LOwn 140 15 (ClE CK CN CA CD CE) w4 w.heap.size (.slice la k lc) k) := HL3.out.below (ClE.keeps CK CN CA CD CE) hb; clear hb HNX HP3 HG3 HL3)
          | (go_at_call 74; refine (skip_yes HP4.out hT hat _ _ _ HC.out.1).mono ?_; rintro e w5 ⟨rfl, hp, hg⟩; have HP5 : Hid (PaS w5 pb b c T { ST k with at' := (ST k).at' + 1 }) := hp; have HG5 : Hid (GrowA pb w w5) := HG4.out.trans hg; have HL5 : Hid (LOwn 140 15 (ClE CK CN CA CD CE) w5 w.heap.size (.slice la k lc) k) := HL4.out.grow (ClE.keeps CK CN CA CD CE) hg HPW.out; clear hp hg HP4 HG4 HL4)
          | (go_at_call 152; refine (HS1.out.use HTB.out HP5.out HG5.out).mono ?_; rintro e w6 ⟨lo2, k0_2, k1_2, k2_2, k5_2, k6_2, k7_2, s3_2, s4_2, s8_2, a9_2, a10_2, l9_2, c9_2, l10_2, c10_2, hlo, hv, rfl, hp, hg⟩; have HE2 := HidOf hv; have HOB : Hid (∀ z, (Value.slice la k lc).ownBlock = some z → z < lo2) := (fun z hz => by rw [hlo.2.2.2]; exact (HL5.out.own z hz).2); have HLO2 := HidOf hlo; have HG6 : Hid (GrowA pb w w6) := HG5.out.trans hg; have HP6 : Hid (PaS w6 pb b c T (ST (k + 1))) := hp; have HL6 : Hid (LOwn 140 15 (ClE CK CN CA CD CE) w6 w.heap.size (.slice la k lc) k) := HL5.out.grow (ClE.keeps CK CN CA CD CE) hg HPW.out; clear hv hlo hp hg HP5 HG5 HL5)
          | (at_builtin; obtain ⟨L, ho, hE⟩ := HL6.out.below (ClE.keeps CK CN CA CD CE) ((Below.refl _ _).alloc (Nat.le_refl _) (.cells #[.int .i64 (CK k), .string (CN k), .string (CA k), .bool (CD k), .int .i64 k0_2, .int .i64 k1_2, .int .i64 k2_2, .string s3_2, .string s4_2, .int .i64 k5_2, .int .i64 k6_2, .int .i64 k7_2, .string s8_2, .slice a9_2 l9_2 c9_2, .slice a10_2 l10_2 c10_2] 140)); refine wpList_append_own_at _ rfl (.tmp 9) (.tmp 12) 36 rfl w.heap.size 140 i0 _ 15 192 Tryz.underlying36 hi0 hz0 hz1 hz2 rfl (by decide) _ _ _ rfl ho ⟨w6.heap.size, 0, none⟩ 1 1 ([.int .i64 (CK k), .string (CN k), .string (CA k), .bool (CD k), .int .i64 k0_2, .int .i64 k1_2, .int .i64 k2_2, .string s3_2, .string s4_2, .int .i64 k5_2, .int .i64 k6_2, .int .i64 k7_2, .string s8_2, .slice a9_2 l9_2 c9_2, .slice a10_2 l10_2 c10_2] : List Value) rfl rfl (new_at rfl) (by intro u hu; simp at hu; rcases hu with rfl | rfl | rfl | rfl | rfl | rfl | rfl | rfl | rfl | rfl | rfl | rfl | rfl | rfl | rfl <;> rfl) (by unfold maxLen; omega) (by omega) (by have := HG6.out.1; simp; omega) ?_; intro v7 w7 hown7 hgrow7 _ hat7; have HL7 : Hid (LOwn 140 15 (ClE CK CN CA CD CE) w7 w.heap.size v7 (k + 1)) := LOwn.push (lo1 := lo2) (ClE.keeps CK CN CA CD CE) hE rfl ⟨_, rfl, Ph.V.keep (fun b q => ⟨q.1, by simp; omega⟩) (fun b q => Below.heap_alloc _ _ _ q.2) HE2.out⟩ HLO2.out.1 HOB.out hown7 hgrow7 hat7; have HX7 : Hid (∀ z, z < w6.heap.size → z < w.heap.size → w7.heap[z]? = w6.heap[z]?) := (fun z h1 h2 => (hgrow7.block z (by simp; omega) (fun e => by have := (HL6.out.own z e.symm).1; omega)).trans (Below.heap_alloc _ _ _ h1)); have HG7 : Hid (GrowA pb w w7) := ⟨Nat.le_trans HG6.out.1 (Nat.le_trans (by simp) hgrow7.size), hgrow7.os.trans HG6.out.2.1, hgrow7.tape.trans HG6.out.2.2.1, hgrow7.output.trans HG6.out.2.2.2.1, fun z h1 h2 => (HX7.out z (Nat.lt_of_lt_of_le h1 HG6.out.1) h1).trans (HG6.out.2.2.2.2 z h1 h2)⟩; have HP7 : Hid (PaS w7 pb b c T (ST (k + 1))) := HP6.out.same (Nat.le_trans (by simp) hgrow7.size) (HX7.out pb HP6.out.pl HPW.out) (HX7.out b HP6.out.bl HBW.out); clear ho hE hown7 hgrow7 hat7 HL6 HG6 HP6 HX7))
        go_roundw
        case rel => exact ⟨k + 1, by omega, HP7.out, HG7.out, HL7.out⟩
        case measure =>
          obtain ⟨a7, c7, rfl⟩ := HL7.out.form
          simp [lenV]; omega
    · obtain rfl : k = n := by omega
      go_wp2_with (first
        | (go_at_call 117; have HNX := HP3; refine (word_is _ _).mono ?_; rintro e w4 ⟨rfl, hb⟩; have HP4 : Hid (PaS w4 pb b c T (ST k)) := HP3.out.below hb; have HG4 : Hid (GrowA pb w w4) := HG3.out.below hb; have HL4 : Hid (LOwn 140 15 (ClE CK CN CA CD CE) w4 w.heap.size (.slice la k lc) k) := HL3.out.below (ClE.keeps CK CN CA CD CE) hb; clear hb HNX HP3 HG3 HL3)
        | (go_at_call 74; refine (skip_no HP4.out hT hat _ _ _ H2.out.1).mono ?_; rintro e w5 ⟨rfl, hp, hg⟩; have HP5 : Hid (PaS w5 pb b c T (ST k)) := hp; have HG5 : Hid (GrowA pb w w5) := HG4.out.trans hg; have HL5 : Hid (LOwn 140 15 (ClE CK CN CA CD CE) w5 w.heap.size (.slice la k lc) k) := HL4.out.grow (ClE.keeps CK CN CA CD CE) hg HPW.out; clear hp hg HP4 HG4 HL4)
        | (go_at_call 117; have HNX := HP5; refine (word_is _ _).mono ?_; rintro e w6 ⟨rfl, hb⟩; have HP6 : Hid (PaS w6 pb b c T (ST k)) := HP5.out.below hb; have HG6 : Hid (GrowA pb w w6) := HG5.out.below hb; have HL6 : Hid (LOwn 140 15 (ClE CK CN CA CD CE) w6 w.heap.size (.slice la k lc) k) := HL5.out.below (ClE.keeps CK CN CA CD CE) hb; clear hb HNX HP5 HG5 HL5)
        | (go_at_call 74; refine (skip_no HP6.out hT hat _ _ _ H2.out.2).mono ?_; rintro e w7 ⟨rfl, hp, hg⟩; have HP7 : Hid (PaS w7 pb b c T (ST k)) := hp; have HG7 : Hid (GrowA pb w w7) := HG6.out.trans hg; have HL7 : Hid (LOwn 140 15 (ClE CK CN CA CD CE) w7 w.heap.size (.slice la k lc) k) := HL6.out.grow (ClE.keeps CK CN CA CD CE) hg HPW.out; clear hp hg HP6 HG6 HL6))
      go_ret
      exact ⟨_, HL7.out, rfl, HP7.out, HG7.out⟩
end Go.Proofs.YtcbpjgnbdpfiiaaGreatDoor
