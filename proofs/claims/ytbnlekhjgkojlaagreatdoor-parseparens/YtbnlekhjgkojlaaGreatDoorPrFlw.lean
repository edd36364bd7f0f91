import Derived.Test.YtbnlekhjgkojlaaGreatDoorPrExc
import Derived.Test.YtbnlekhjgkojlaaGreatDoorPrOrd
import Derived.Test.YtbnlekhjgkojlaaGreatDoorTkStep
import Derived.Deep.AppendLies
import Derived.Deep.RegionLaw
set_option linter.unusedVariables false
namespace Go.Proofs.YtbnlekhjgkojlaaGreatDoor
set_option maxRecDepth 100000
open Go.RowKit
set_option maxHeartbeats 12800000 in
theorem flwor_order {pb b c : Nat} {T : List Tok} {st s1 s2 s3 s4 s5 : Pst} {p pw po : Ph} {dn : Bool} {n : Nat} {CK : Nat → Int} {CN CA : Nat → ByteArray} {CD : Nat → Bool} {CE : Nat → Ph} (hT : T.length ≤ 200) (hat : st.at' ≤ 300) (hn : n ≤ 1000) (hat1 : s1.at' ≤ 300) (hbi : RunB pb b c T 94 st s1 n CK CN CA CD CE) (yw : eqT (seeM T s1 0) ⟨1, ⟨#[119, 104, 101, 114, 101]⟩, 0⟩ = true) (hlw : RunT pb b c T 68 #[.pointer (some ⟨pb, 0, none⟩)] { s1 with at' := s1.at' + 1 } s2 pw) (hat2 : s2.at' ≤ 300) (yo : eqT (seeM T s2 0) ⟨1, ⟨#[111, 114, 100, 101, 114]⟩, 0⟩ = true) (hlo : RunC pb b c T 95 { s2 with at' := s2.at' + 1 } s3 4 ⟨#[]⟩ ⟨#[]⟩ dn po) (hat3 : s3.at' ≤ 300) (hw : wantM T s3 ⟨1, ⟨#[114, 101, 116, 117, 114, 110]⟩, 0⟩ = s4) (hlu : RunT pb b c T 68 #[.pointer (some ⟨pb, 0, none⟩)] s4 s5 p)
 (hk1 : CK n = 3 ∧ CN n = ⟨#[]⟩ ∧ CA n = ⟨#[]⟩ ∧ CD n = false ∧ CE n = pw) (hk2 : CK (n + 1) = 4 ∧ CN (n + 1) = ⟨#[]⟩ ∧ CA (n + 1) = ⟨#[]⟩ ∧ CD (n + 1) = dn ∧ CE (n + 1) = po) : RunT pb b c T 82 #[.pointer (some ⟨pb, 0, none⟩)] st s5 (.mk 28 ⟨0, 0, ⟨#[]⟩⟩ ⟨#[]⟩ 0 0 0 ⟨#[]⟩ 1 (fun _ => p) (n + 2) CK CN CA CD CE) := by
 intro w h htb
 have HTB : Hid (RTab w pb) := htb
 have HLU := HidOf hlu
 have HLW := HidOf hlw
 have HLO := HidOf hlo
 have HBI := HidOf hbi
 clear htb hlu hbi hlw hlo
 have hpl := h.pl
 have hbl := h.bl
 have HBW : Hid (b < w.heap.size) := hbl
 have HPW : Hid (pb < w.heap.size) := hpl
 obtain ⟨i0, hi0, hz0, hz1, hz2⟩ := info_parts infoCla
 go_enter Tryz.func82, Tryz.ntmps82
 go_upto_region 1 with fail
 obtain ⟨W1, hW1⟩ : ∃ W, W = w.alloc (.cells #[.int .i64 0, .int .i64 0, .int .i64 0, .string ⟨#[]⟩, .string ⟨#[]⟩, .int .i64 0, .int .i64 0, .int .i64 0, .string ⟨#[]⟩, .slice none 0 0, .slice none 0 0] 36) := ⟨_, rfl⟩
 have HG1 : Hid (GrowA pb w W1) := by rw [hW1]; exact (GrowA.refl _ _).alloc _
 have HP1 : Hid (PaS W1 pb b c T st) := by rw [hW1]; exact h.allocI _
 have HR1 : Hid (PhZ W1 w.heap.size) := by rw [hW1]; exact PhB.new w _
 rw [← hW1]
 obtain ⟨r, hr⟩ : ∃ r, r = w.heap.size := ⟨_, rfl⟩
 have HRW : Hid (w.heap.size ≤ r) := Nat.le_of_eq hr.symm
 have hrp : r ≠ pb := by omega
 have hrb : r ≠ b := by omega
 rw [← hr] at HR1 ⊢
 clear hW1 hr h hpl hbl
 go_upto_region 2 with (go_at_call 94; refine (HBI.out.use HTB.out HP1.out HG1.out (show r < _ from by have k := HR1.out.lt; first | exact k | (simp; omega))).mono ?_; rintro e w2 ⟨lo0, v, hlo, hv, rfl, hp, hg⟩; obtain ⟨ac, cc, rfl⟩ := hv.form; have HC2 : Hid (LOwn 74 15 (ClE CK CN CA CD CE) w2 lo0 (.slice ac n cc) n) := hv; have hl0 := hlo.1; have hp0 := hlo.2.1; have hz0' := hlo.2.2; have HG2 : Hid (GrowA pb w w2) := HG1.out.trans hg; have HP2 : Hid (PaS w2 pb b c T s1) := hp; have HR2 : Hid (PhZ w2 r) := HR1.out.grow hg hrp; clear hv hlo hp hg HP1 HG1 HR1)
 obtain ⟨x, hx0⟩ : ∃ x, x = w2.heap.size := ⟨_, rfl⟩
 obtain ⟨W3, hW3⟩ : ∃ W, W = w2.alloc (.cells #[.int .i64 28, .int .i64 0, .int .i64 0, .string ⟨#[]⟩, .string ⟨#[]⟩, .int .i64 0, .int .i64 0, .int .i64 0, .string ⟨#[]⟩, .slice none 0 0, .slice ac n cc] 36) := ⟨_, rfl⟩
 have HP3 : Hid (PaS W3 pb b c T s1) := by rw [hW3]; exact HP2.out.allocI _
 have HG3 : Hid (GrowA pb w W3) := by rw [hW3]; exact HG2.out.alloc _
 have HR3 : Hid (PhZ W3 r) := by rw [hW3]; exact HR2.out.allocI _
 have HX3 : Hid (PhB W3 x #[.int .i64 28, .int .i64 0, .int .i64 0, .string ⟨#[]⟩, .string ⟨#[]⟩, .int .i64 0, .int .i64 0, .int .i64 0, .string ⟨#[]⟩, .slice none 0 0, .slice ac n cc]) := by rw [hW3, hx0]; exact PhB.new w2 _
 have HO3 : Hid (LOwn 74 15 (exc x (ClE CK CN CA CD CE)) W3 lo0 (.slice ac n cc) n) := by rw [hW3]; exact (HC2.out.toExc (ClE.keeps CK CN CA CD CE) (by rw [hx0]; exact Nat.le_refl _)).below (exc.keeps (ClE.keeps CK CN CA CD CE)) ((Below.refl _ _).alloc (Nat.le_refl _) _)
 have hne : (Value.slice ac n cc).ownBlock ≠ some x := fun e => by have := (HC2.out.own x e).2; omega
 have hxp : x ≠ pb := by have := HP2.out.pl; omega
 have hxb : x ≠ b := by have := HP2.out.bl; omega
 have hxw : w.heap.size ≤ x := by rw [hx0]; exact HG2.out.1
 have hrx2 : r < x := by rw [hx0]; exact HR2.out.lt
 have hrx : r ≠ x := by omega
 have hlx : lo0 ≤ x := by rw [hx0]; exact hz0'
 rw [← hx0, ← hW3]
 clear hW3 HP2 HG2 HR2 hx0 HC2 hz0'
 go_upto_region 3 with (first
  | (go_at_call 81; have HNX := HP3; refine (word_is _ _).mono ?_; rintro e w4 ⟨rfl, hb⟩; have HG4 : Hid (GrowA pb w w4) := (HG3.out.below hb); have HP4 : Hid (PaS w4 pb b c T s1) := (HP3.out.below hb); have HR4 : Hid (PhZ w4 r) := (HR3.out.below hb); have HX4 : Hid (PhB w4 x #[.int .i64 28, .int .i64 0, .int .i64 0, .string ⟨#[]⟩, .string ⟨#[]⟩, .int .i64 0, .int .i64 0, .int .i64 0, .string ⟨#[]⟩, .slice none 0 0, .slice ac n cc]) := (HX3.out.below hb); have HO4 : Hid (LOwn 74 15 (exc x (ClE CK CN CA CD CE)) w4 lo0 (.slice ac n cc) n) := HO3.out.below (exc.keeps (ClE.keeps CK CN CA CD CE)) hb; clear HO3; clear hb HNX HP3 HG3 HR3 HX3)
  | (go_at_call 69; (refine (skip_yes HP4.out hT hat1 _ _ _ yw).mono ?_); rintro e w5 ⟨rfl, hp, hg⟩; have HG5 : Hid (GrowA pb w w5) := (HG4.out.trans hg); have HP5 : Hid (PaS w5 pb b c T { s1 with at' := s1.at' + 1 }) := hp; have HR5 : Hid (PhZ w5 r) := (HR4.out.grow hg hrp); have HX5 : Hid (PhB w5 x #[.int .i64 28, .int .i64 0, .int .i64 0, .string ⟨#[]⟩, .string ⟨#[]⟩, .int .i64 0, .int .i64 0, .int .i64 0, .string ⟨#[]⟩, .slice none 0 0, .slice ac n cc]) := (HX4.out.grow hg hxp); obtain ⟨⟨m0, m1, m2, m3, m4, m5, m6, m7, m8, m9, m10⟩, j0, j1, j2, j3, j4, j5, j6, j7, j8, j9, j10⟩ := HX5.out.cells; have hxz := HX5.out.lt; have HO5 : Hid (LOwn 74 15 (exc x (ClE CK CN CA CD CE)) w5 lo0 (.slice ac n cc) n) := HO4.out.grow (exc.keeps (ClE.keeps CK CN CA CD CE)) hg hp0; clear HO4; clear hp hg HP4 HG4 HR4 HX4))
 have HPXg : Hid (∀ W, GrowA pb w5 W → PhB W x #[.int .i64 28, .int .i64 0, .int .i64 0, .string ⟨#[]⟩, .string ⟨#[]⟩, .int .i64 0, .int .i64 0, .int .i64 0, .string ⟨#[]⟩, .slice none 0 0, .slice ac n cc]) := fun W h => HX5.out.grow h hxp
 have HLOG : Hid (∀ W, GrowA pb w5 W → LOwn 74 15 (exc x (ClE CK CN CA CD CE)) W lo0 (.slice ac n cc) (n)) := fun W h => HO5.out.grow (exc.keeps (ClE.keeps CK CN CA CD CE)) h hp0
 have hxn : x < w5.heap.size := HX5.out.lt
 have hln : lo0 ≤ w5.heap.size := by omega
 have HOWN : Hid (∀ k, ((.slice ac n cc) : Value).ownBlock = some k → k < w5.heap.size) := fun k hk => (HO5.out.own k hk).2
 have HOWL : Hid (∀ k, ((.slice ac n cc) : Value).ownBlock = some k → lo0 ≤ k) := fun k hk => (HO5.out.own k hk).1
 have CL : Hid (Calls Tryz.prog 68 #[.pointer (some ⟨pb, 0, none⟩)] w5.drew fun e w' => ∃ u, e = .returned u ∧ ∃ v, u = .agg v.toArray ∧ w5.heap.size ≤ w'.heap.size ∧ Tre w' w5.heap.size pw v ∧ PaS w' pb b c T s2 ∧ GrowA pb w5 w') := (HLW.out.useD HTB.out HG5.out (GrowA.drewG (GrowA.refl _ _)) (PaS.drewP HP5.out)).mono fun e w' ⟨v, h1, h2, h3, h4, h5⟩ => ⟨_, h3, v, rfl, h1, h2, h4, h5⟩
 clear HO5
 go_region_law (first
  | (refine step_call rfl 68 #[.pointer (some ⟨pb, 0, none⟩)] (by simp [go_sem]) (fun u w' => ∃ v, u = .agg v.toArray ∧ w5.heap.size ≤ w'.heap.size ∧ Tre w' w5.heap.size pw v ∧ PaS w' pb b c T s2 ∧ GrowA pb w5 w') CL.out ?_; rintro u wz ⟨v, rfl, hsz, hv, hp, hg⟩; obtain ⟨k0_2, k1_2, k2_2, k5_2, k6_2, k7_2, s3_2, s4_2, s8_2, a9_2, a10_2, l9_2, c9_2, l10_2, c10_2, rfl⟩ := hv.form; have HVz := HidOf hv; have HPz := HidOf hp; have HGz := HidOf hg; have HSz := HidOf hsz; obtain ⟨⟨m0, m1, m2, m3, m4, m5, m6, m7, m8, m9, m10⟩, j0, j1, j2, j3, j4, j5, j6, j7, j8, j9, j10⟩ := (HPXg.out wz hg).cells; have hxz := (HPXg.out wz hg).lt; clear hsz hv hp hg CL)
  | (obtain ⟨L, ho, hE⟩ := (HLOG.out wz HGz.out).below (exc.keeps (ClE.keeps CK CN CA CD CE)) ((Below.refl _ _).alloc (Nat.le_refl _) (.cells #[.int .i64 3, .string ⟨#[]⟩, .string ⟨#[]⟩, .bool false, .int .i64 k0_2, .int .i64 k1_2, .int .i64 k2_2, .string s3_2, .string s4_2, .int .i64 k5_2, .int .i64 k6_2, .int .i64 k7_2, .string s8_2, .slice a9_2 l9_2 c9_2, .slice a10_2 l10_2 c10_2] 74)); refine step_append_lies _ rfl (.tmp 11) (.tmp 15) 34 rfl lo0 74 i0 _ 15 192 Tryz.underlying34 hi0 hz0 hz1 hz2 rfl (by decide) (.slice ac n cc) (n) _ (by simp [Act.eval]) ho ⟨wz.heap.size, 0, none⟩ 1 1 ([.int .i64 3, .string ⟨#[]⟩, .string ⟨#[]⟩, .bool false, .int .i64 k0_2, .int .i64 k1_2, .int .i64 k2_2, .string s3_2, .string s4_2, .int .i64 k5_2, .int .i64 k6_2, .int .i64 k7_2, .string s8_2, .slice a9_2 l9_2 c9_2, .slice a10_2 l10_2 c10_2] : List Value) (by simp [Act.eval]) rfl (new_at rfl) (by intro u hu; simp at hu; rcases hu with rfl | rfl | rfl | rfl | rfl | rfl | rfl | rfl | rfl | rfl | rfl | rfl | rfl | rfl | rfl <;> rfl) (by decide) (by unfold maxLen; omega) (by omega) (by have := HSz.out; simp; omega) _ rfl ?_; intro g7 c7 w7 hown7 hgrow7 hg7 hlt7; have HT7 := HidOf (show LOwn 74 15 (exc x (ClE CK CN CA CD CE)) w7 lo0 (.slice (some ⟨g7, 0, none⟩) (n + 1) c7) (n + 1) from LOwn.pushX (lo1 := w5.heap.size) (ClE.keeps CK CN CA CD CE) hE rfl ⟨[.int .i64 k0_2, .int .i64 k1_2, .int .i64 k2_2, .string s3_2, .string s4_2, .int .i64 k5_2, .int .i64 k6_2, .int .i64 k7_2, .string s8_2, .slice a9_2 l9_2 c9_2, .slice a10_2 l10_2 c10_2], by rw [hk1.1, hk1.2.1, hk1.2.2.1, hk1.2.2.2.1]; rfl, by rw [hk1.2.2.2.2]; exact Ph.V.keep (fun b q => ⟨q.1, by have := q.2; simp; omega⟩) (fun b q => Below.heap_alloc _ _ _ q.2) HVz.out⟩ hln hxn HOWN.out hown7 hgrow7 hg7); have HN7 : Hid (g7 ≠ x) := (by rcases hg7 with e | e; exact fun e2 => hne (by rw [e, e2]); (intro e2; have := HSz.out; simp at e; omega)); have HB7 : Hid (∀ z, z < wz.heap.size → (z < lo0 ∨ z = x) → w7.heap[z]? = wz.heap[z]?) := (fun z h1 h2 => (hgrow7.block z (by simp; omega) (fun e => by rcases h2 with h3 | h3; (have := HOWL.out z e.symm; omega); exact hne (by rw [← e, h3]))).trans (Below.heap_alloc _ _ _ h1)); have HW7 := HidOf hgrow7; have hx7 : PhB w7 x #[.int .i64 28, .int .i64 0, .int .i64 0, .string ⟨#[]⟩, .string ⟨#[]⟩, .int .i64 0, .int .i64 0, .int .i64 0, .string ⟨#[]⟩, .slice none 0 0, .slice ac n cc] := (HB7.out x (HPXg.out wz HGz.out).lt (.inr rfl)).trans (HPXg.out wz HGz.out); obtain ⟨⟨m0, m1, m2, m3, m4, m5, m6, m7, m8, m9, m10⟩, j0, j1, j2, j3, j4, j5, j6, j7, j8, j9, j10⟩ := hx7.cells; have hxz := hx7.lt; clear ho hE hown7 hgrow7 hg7 hx7))
 all_goals
  obtain ⟨w8, hw8⟩ : ∃ W, W = w7.setCell ⟨x, 10, none⟩ (.slice (some ⟨g7, 0, none⟩) (n + 1) c7) := ⟨_, rfl⟩
  have hsz7 : wz.heap.size ≤ w7.heap.size := Nat.le_trans (by simp) HW7.out.size
  have HP8 : Hid (PaS w8 pb b c T s2) := by rw [hw8]; exact (HPz.out.same hsz7 (HB7.out pb HPz.out.pl (.inl hp0)) (HB7.out b HPz.out.bl (.inl (by have := HBW.out; have := HRW.out; omega)))).setR hxp hxb 10 _
  have HG8 : Hid (GrowA pb w w8) := by
   rw [hw8]
   have g0 := HG5.out.trans HGz.out
   exact GrowA.setR ⟨Nat.le_trans g0.1 hsz7, HW7.out.os.trans g0.2.1, HW7.out.tape.trans g0.2.2.1, HW7.out.output.trans g0.2.2.2.1, fun z h1 h2 => (HB7.out z (Nat.lt_of_lt_of_le h1 g0.1) (.inl (by have := HRW.out; omega))).trans (g0.2.2.2.2 z h1 h2)⟩ hxw 10 _
  have HR8 : Hid (PhZ w8 r) := by rw [hw8]; exact PhB.setO ((HB7.out r (HR5.out.grow HGz.out hrp).lt (.inl hl0)).trans (HR5.out.grow HGz.out hrp)) hrx 10 _
  have HX8 : Hid (PhB w8 x #[.int .i64 28, .int .i64 0, .int .i64 0, .string ⟨#[]⟩, .string ⟨#[]⟩, .int .i64 0, .int .i64 0, .int .i64 0, .string ⟨#[]⟩, .slice none 0 0, .slice (some ⟨g7, 0, none⟩) (n + 1) c7]) := by rw [hw8]; exact PhB.setAt ((HB7.out x (HPXg.out wz HGz.out).lt (.inr rfl)).trans (HPXg.out wz HGz.out)) 10 _
  have hne' : (Value.slice (some ⟨g7, 0, none⟩) (n + 1) c7).ownBlock ≠ some x := fun e => HN7.out (Option.some.inj e)
  have HO8 : Hid (LOwn 74 15 (exc x (ClE CK CN CA CD CE)) w8 lo0 (.slice (some ⟨g7, 0, none⟩) (n + 1) c7) (n + 1)) := by rw [hw8]; exact HT7.out.setX (ClE.keeps CK CN CA CD CE) hne' 10 _
  rw [← hw8]
  clear hw8 hne HT7 HN7 HB7 HW7 HVz HSz HGz HPz HPXg HLOG HOWN HOWL HP5 HG5 HR5 HX5 m0 j0 m1 j1 m2 j2 m3 j3 m4 j4 m5 j5 m6 j6 m7 j7 m8 j8 m9 j9 m10 j10 hxz hsz7 hlt7 hxn hln
  have hne := hne'
  clear hne'
  obtain ⟨ga, hga⟩ : ∃ z, z = g7 := ⟨_, rfl⟩
  obtain ⟨ca, hca⟩ : ∃ z, z = c7 := ⟨_, rfl⟩
  rw [← hga, ← hca] at HX8 HO8 hne ⊢
  clear hga hca
  go_upto_region 5 with (first
   | (go_at_call 81; have HNX := HP8; refine (word_is _ _).mono ?_; rintro e w9 ⟨rfl, hb⟩; have HG9 : Hid (GrowA pb w w9) := (HG8.out.below hb); have HP9 : Hid (PaS w9 pb b c T s2) := (HP8.out.below hb); have HR9 : Hid (PhZ w9 r) := (HR8.out.below hb); have HX9 : Hid (PhB w9 x #[.int .i64 28, .int .i64 0, .int .i64 0, .string ⟨#[]⟩, .string ⟨#[]⟩, .int .i64 0, .int .i64 0, .int .i64 0, .string ⟨#[]⟩, .slice none 0 0, .slice (some ⟨ga, 0, none⟩) (n + 1) ca]) := (HX8.out.below hb); have HO9 : Hid (LOwn 74 15 (exc x (ClE CK CN CA CD CE)) w9 lo0 (.slice (some ⟨ga, 0, none⟩) (n + 1) ca) (n + 1)) := HO8.out.below (exc.keeps (ClE.keeps CK CN CA CD CE)) hb; clear HO8; clear hb HNX HP8 HG8 HR8 HX8)
   | (go_at_call 69; (refine (skip_yes HP9.out hT hat2 _ _ _ yo).mono ?_); rintro e w10 ⟨rfl, hp, hg⟩; have HG10 : Hid (GrowA pb w w10) := (HG9.out.trans hg); have HP10 : Hid (PaS w10 pb b c T { s2 with at' := s2.at' + 1 }) := hp; have HR10 : Hid (PhZ w10 r) := (HR9.out.grow hg hrp); have HX10 : Hid (PhB w10 x #[.int .i64 28, .int .i64 0, .int .i64 0, .string ⟨#[]⟩, .string ⟨#[]⟩, .int .i64 0, .int .i64 0, .int .i64 0, .string ⟨#[]⟩, .slice none 0 0, .slice (some ⟨ga, 0, none⟩) (n + 1) ca]) := (HX9.out.grow hg hxp); obtain ⟨⟨m0, m1, m2, m3, m4, m5, m6, m7, m8, m9, m10⟩, j0, j1, j2, j3, j4, j5, j6, j7, j8, j9, j10⟩ := HX10.out.cells; have hxz := HX10.out.lt; have HO10 : Hid (LOwn 74 15 (exc x (ClE CK CN CA CD CE)) w10 lo0 (.slice (some ⟨ga, 0, none⟩) (n + 1) ca) (n + 1)) := HO9.out.grow (exc.keeps (ClE.keeps CK CN CA CD CE)) hg hp0; clear HO9; clear hp hg HP9 HG9 HR9 HX9))
  have HPXg : Hid (∀ W, GrowA pb w10 W → PhB W x #[.int .i64 28, .int .i64 0, .int .i64 0, .string ⟨#[]⟩, .string ⟨#[]⟩, .int .i64 0, .int .i64 0, .int .i64 0, .string ⟨#[]⟩, .slice none 0 0, .slice (some ⟨ga, 0, none⟩) (n + 1) ca]) := fun W h => HX10.out.grow h hxp
  have HLOG : Hid (∀ W, GrowA pb w10 W → LOwn 74 15 (exc x (ClE CK CN CA CD CE)) W lo0 (.slice (some ⟨ga, 0, none⟩) (n + 1) ca) (n + 1)) := fun W h => HO10.out.grow (exc.keeps (ClE.keeps CK CN CA CD CE)) h hp0
  have hxn : x < w10.heap.size := HX10.out.lt
  have hln : lo0 ≤ w10.heap.size := by omega
  have HOWN : Hid (∀ k, ((.slice (some ⟨ga, 0, none⟩) (n + 1) ca) : Value).ownBlock = some k → k < w10.heap.size) := fun k hk => (HO10.out.own k hk).2
  have HOWL : Hid (∀ k, ((.slice (some ⟨ga, 0, none⟩) (n + 1) ca) : Value).ownBlock = some k → lo0 ≤ k) := fun k hk => (HO10.out.own k hk).1
  have CL : Hid (Calls Tryz.prog 95 #[.pointer (some ⟨pb, 0, none⟩)] w10.drew fun e w' => ∃ u, e = .returned u ∧ ∃ v, u = .agg ([.int .i64 4, .string ⟨#[]⟩, .string ⟨#[]⟩, .bool dn] ++ v : List Value).toArray ∧ w10.heap.size ≤ w'.heap.size ∧ Tre w' w10.heap.size po v ∧ PaS w' pb b c T s3 ∧ GrowA pb w10 w') := (HLO.out w10.drew (PaS.drewP HP10.out) (HTB.out.grow (GrowA.drewG HG10.out))).mono fun e w' ⟨v, h1, h2, h3, h4⟩ => ⟨_, h2, v, rfl, h4.1, h1, h3, h4⟩
  clear HO10
  go_region_law (first
   | (refine step_call rfl 95 #[.pointer (some ⟨pb, 0, none⟩)] (by simp [go_sem]) (fun u w' => ∃ v, u = .agg ([.int .i64 4, .string ⟨#[]⟩, .string ⟨#[]⟩, .bool dn] ++ v : List Value).toArray ∧ w10.heap.size ≤ w'.heap.size ∧ Tre w' w10.heap.size po v ∧ PaS w' pb b c T s3 ∧ GrowA pb w10 w') CL.out ?_; rintro u wz ⟨v, rfl, hsz, hv, hp, hg⟩; obtain ⟨k0_2, k1_2, k2_2, k5_2, k6_2, k7_2, s3_2, s4_2, s8_2, a9_2, a10_2, l9_2, c9_2, l10_2, c10_2, rfl⟩ := hv.form; have HVz := HidOf hv; have HPz := HidOf hp; have HGz := HidOf hg; have HSz := HidOf hsz; obtain ⟨⟨m0, m1, m2, m3, m4, m5, m6, m7, m8, m9, m10⟩, j0, j1, j2, j3, j4, j5, j6, j7, j8, j9, j10⟩ := (HPXg.out wz hg).cells; have hxz := (HPXg.out wz hg).lt; clear hsz hv hp hg CL)
   | (obtain ⟨L, ho, hE⟩ := (HLOG.out wz HGz.out).below (exc.keeps (ClE.keeps CK CN CA CD CE)) ((Below.refl _ _).alloc (Nat.le_refl _) (.cells #[.int .i64 4, .string ⟨#[]⟩, .string ⟨#[]⟩, .bool dn, .int .i64 k0_2, .int .i64 k1_2, .int .i64 k2_2, .string s3_2, .string s4_2, .int .i64 k5_2, .int .i64 k6_2, .int .i64 k7_2, .string s8_2, .slice a9_2 l9_2 c9_2, .slice a10_2 l10_2 c10_2] 74)); refine step_append_lies _ rfl (.tmp 22) (.tmp 25) 34 rfl lo0 74 i0 _ 15 192 Tryz.underlying34 hi0 hz0 hz1 hz2 rfl (by decide) (.slice (some ⟨ga, 0, none⟩) (n + 1) ca) (n + 1) _ (by simp [Act.eval]) ho ⟨wz.heap.size, 0, none⟩ 1 1 ([.int .i64 4, .string ⟨#[]⟩, .string ⟨#[]⟩, .bool dn, .int .i64 k0_2, .int .i64 k1_2, .int .i64 k2_2, .string s3_2, .string s4_2, .int .i64 k5_2, .int .i64 k6_2, .int .i64 k7_2, .string s8_2, .slice a9_2 l9_2 c9_2, .slice a10_2 l10_2 c10_2] : List Value) (by simp [Act.eval]) rfl (new_at rfl) (by intro u hu; simp at hu; rcases hu with rfl | rfl | rfl | rfl | rfl | rfl | rfl | rfl | rfl | rfl | rfl | rfl | rfl | rfl | rfl <;> rfl) (by decide) (by unfold maxLen; omega) (by omega) (by have := HSz.out; simp; omega) _ rfl ?_; intro g7 c7 w7 hown7 hgrow7 hg7 hlt7; have HT7 := HidOf (show LOwn 74 15 (exc x (ClE CK CN CA CD CE)) w7 lo0 (.slice (some ⟨g7, 0, none⟩) (n + 1 + 1) c7) (n + 1 + 1) from LOwn.pushX (lo1 := w10.heap.size) (ClE.keeps CK CN CA CD CE) hE rfl ⟨[.int .i64 k0_2, .int .i64 k1_2, .int .i64 k2_2, .string s3_2, .string s4_2, .int .i64 k5_2, .int .i64 k6_2, .int .i64 k7_2, .string s8_2, .slice a9_2 l9_2 c9_2, .slice a10_2 l10_2 c10_2], by rw [hk2.1, hk2.2.1, hk2.2.2.1, hk2.2.2.2.1]; rfl, by rw [hk2.2.2.2.2]; exact Ph.V.keep (fun b q => ⟨q.1, by have := q.2; simp; omega⟩) (fun b q => Below.heap_alloc _ _ _ q.2) HVz.out⟩ hln hxn HOWN.out hown7 hgrow7 hg7); have HN7 : Hid (g7 ≠ x) := (by rcases hg7 with e | e; exact fun e2 => hne (by rw [e, e2]); (intro e2; have := HSz.out; simp at e; omega)); have HB7 : Hid (∀ z, z < wz.heap.size → (z < lo0 ∨ z = x) → w7.heap[z]? = wz.heap[z]?) := (fun z h1 h2 => (hgrow7.block z (by simp; omega) (fun e => by rcases h2 with h3 | h3; (have := HOWL.out z e.symm; omega); exact hne (by rw [← e, h3]))).trans (Below.heap_alloc _ _ _ h1)); have HW7 := HidOf hgrow7; have hx7 : PhB w7 x #[.int .i64 28, .int .i64 0, .int .i64 0, .string ⟨#[]⟩, .string ⟨#[]⟩, .int .i64 0, .int .i64 0, .int .i64 0, .string ⟨#[]⟩, .slice none 0 0, .slice (some ⟨ga, 0, none⟩) (n + 1) ca] := (HB7.out x (HPXg.out wz HGz.out).lt (.inr rfl)).trans (HPXg.out wz HGz.out); obtain ⟨⟨m0, m1, m2, m3, m4, m5, m6, m7, m8, m9, m10⟩, j0, j1, j2, j3, j4, j5, j6, j7, j8, j9, j10⟩ := hx7.cells; have hxz := hx7.lt; clear ho hE hown7 hgrow7 hg7 hx7))
  all_goals
   obtain ⟨w13, hw13⟩ : ∃ W, W = w7.setCell ⟨x, 10, none⟩ (.slice (some ⟨g7, 0, none⟩) (n + 1 + 1) c7) := ⟨_, rfl⟩
   have hsz7 : wz.heap.size ≤ w7.heap.size := Nat.le_trans (by simp) HW7.out.size
   have HP13 : Hid (PaS w13 pb b c T s3) := by rw [hw13]; exact (HPz.out.same hsz7 (HB7.out pb HPz.out.pl (.inl hp0)) (HB7.out b HPz.out.bl (.inl (by have := HBW.out; have := HRW.out; omega)))).setR hxp hxb 10 _
   have HG13 : Hid (GrowA pb w w13) := by
    rw [hw13]
    have g0 := HG10.out.trans HGz.out
    exact GrowA.setR ⟨Nat.le_trans g0.1 hsz7, HW7.out.os.trans g0.2.1, HW7.out.tape.trans g0.2.2.1, HW7.out.output.trans g0.2.2.2.1, fun z h1 h2 => (HB7.out z (Nat.lt_of_lt_of_le h1 g0.1) (.inl (by have := HRW.out; omega))).trans (g0.2.2.2.2 z h1 h2)⟩ hxw 10 _
   have HR13 : Hid (PhZ w13 r) := by rw [hw13]; exact PhB.setO ((HB7.out r (HR10.out.grow HGz.out hrp).lt (.inl hl0)).trans (HR10.out.grow HGz.out hrp)) hrx 10 _
   have HX13 : Hid (PhB w13 x #[.int .i64 28, .int .i64 0, .int .i64 0, .string ⟨#[]⟩, .string ⟨#[]⟩, .int .i64 0, .int .i64 0, .int .i64 0, .string ⟨#[]⟩, .slice none 0 0, .slice (some ⟨g7, 0, none⟩) (n + 1 + 1) c7]) := by rw [hw13]; exact PhB.setAt ((HB7.out x (HPXg.out wz HGz.out).lt (.inr rfl)).trans (HPXg.out wz HGz.out)) 10 _
   have hne' : (Value.slice (some ⟨g7, 0, none⟩) (n + 1 + 1) c7).ownBlock ≠ some x := fun e => HN7.out (Option.some.inj e)
   have HO13 : Hid (LOwn 74 15 (exc x (ClE CK CN CA CD CE)) w13 lo0 (.slice (some ⟨g7, 0, none⟩) (n + 1 + 1) c7) (n + 1 + 1)) := by rw [hw13]; exact HT7.out.setX (ClE.keeps CK CN CA CD CE) hne' 10 _
   rw [← hw13]
   clear hw13 hne HT7 HN7 HB7 HW7 HVz HSz HGz HPz HPXg HLOG HOWN HOWL HP10 HG10 HR10 HX10 m0 j0 m1 j1 m2 j2 m3 j3 m4 j4 m5 j5 m6 j6 m7 j7 m8 j8 m9 j9 m10 j10 hxz hsz7 hlt7 hxn hln
   have hne := hne'
   clear hne'
   go_upto_region 8 with (first
    | (go_at_call 81; have HNX := HP13; refine (word_is _ _).mono ?_; rintro e w14 ⟨rfl, hb⟩; have HG14 : Hid (GrowA pb w w14) := (HG13.out.below hb); have HP14 : Hid (PaS w14 pb b c T s3) := (HP13.out.below hb); have HR14 : Hid (PhZ w14 r) := (HR13.out.below hb); have HX14 : Hid (PhB w14 x #[.int .i64 28, .int .i64 0, .int .i64 0, .string ⟨#[]⟩, .string ⟨#[]⟩, .int .i64 0, .int .i64 0, .int .i64 0, .string ⟨#[]⟩, .slice none 0 0, .slice (some ⟨g7, 0, none⟩) (n + 1 + 1) c7]) := (HX13.out.below hb); have HO14 : Hid (LOwn 74 15 (exc x (ClE CK CN CA CD CE)) w14 lo0 (.slice (some ⟨g7, 0, none⟩) (n + 1 + 1) c7) (n + 1 + 1)) := HO13.out.below (exc.keeps (ClE.keeps CK CN CA CD CE)) hb; clear HO13; clear hb HNX HP13 HG13 HR13 HX13)
    | (go_at_call 96; (refine (want_eq HP14.out hT hat3 hw).mono ?_); rintro e w15 ⟨rfl, hp, hg⟩; have HG15 : Hid (GrowA pb w w15) := (HG14.out.trans hg); have HP15 : Hid (PaS w15 pb b c T s4) := hp; have HR15 : Hid (PhZ w15 r) := (HR14.out.grow hg hrp); have HX15 : Hid (PhB w15 x #[.int .i64 28, .int .i64 0, .int .i64 0, .string ⟨#[]⟩, .string ⟨#[]⟩, .int .i64 0, .int .i64 0, .int .i64 0, .string ⟨#[]⟩, .slice none 0 0, .slice (some ⟨g7, 0, none⟩) (n + 1 + 1) c7]) := (HX14.out.grow hg hxp); have HO15 : Hid (LOwn 74 15 (exc x (ClE CK CN CA CD CE)) w15 lo0 (.slice (some ⟨g7, 0, none⟩) (n + 1 + 1) c7) (n + 1 + 1)) := HO14.out.grow (exc.keeps (ClE.keeps CK CN CA CD CE)) hg hp0; clear HO14; clear hp hg HP14 HG14 HR14 HX14)
    | (go_at_call 68; (first | refine (HLU.out.use HTB.out HP15.out HG15.out (show x < _ from by have k := HX15.out.lt; first | exact k | (simp; omega))).mono ?_ | refine (HLU.out.use HTB.out (HP15.out.allocI _) (HG15.out.alloc _) (show x < _ from by have k := HX15.out.lt; first | exact k | (simp; omega))).mono ?_ | refine (HLU.out.use HTB.out ((HP15.out.allocI _).allocI _) ((HG15.out.alloc _).alloc _) (show x < _ from by have k := HX15.out.lt; first | exact k | (simp; omega))).mono ?_); rintro e w16 ⟨lo1, v, hlo, hv, rfl, hp, hg⟩; obtain ⟨k0_1, k1_1, k2_1, k5_1, k6_1, k7_1, s3_1, s4_1, s8_1, a9_1, a10_1, l9_1, c9_1, l10_1, c10_1, rfl⟩ := hv.form; have hlo1 := hlo.1; have hlp1 := hlo.2.1; have hlz1 := hlo.2.2; have HG16 : Hid (GrowA pb w w16) := (HG15.out.trans hg); have HP16 : Hid (PaS w16 pb b c T s5) := hp; have HR16 : Hid (PhZ w16 r) := (HR15.out.grow hg hrp); have HX16 : Hid (PhB w16 x #[.int .i64 28, .int .i64 0, .int .i64 0, .string ⟨#[]⟩, .string ⟨#[]⟩, .int .i64 0, .int .i64 0, .int .i64 0, .string ⟨#[]⟩, .slice none 0 0, .slice (some ⟨g7, 0, none⟩) (n + 1 + 1) c7]) := (HX15.out.grow hg hxp); have HV1_16 : Hid (Tre w16 lo1 p [.int .i64 k0_1, .int .i64 k1_1, .int .i64 k2_1, .string s3_1, .string s4_1, .int .i64 k5_1, .int .i64 k6_1, .int .i64 k7_1, .string s8_1, .slice a9_1 l9_1 c9_1, .slice a10_1 l10_1 c10_1]) := hv; obtain ⟨⟨m0, m1, m2, m3, m4, m5, m6, m7, m8, m9, m10⟩, j0, j1, j2, j3, j4, j5, j6, j7, j8, j9, j10⟩ := HX16.out.cells; have hxz := HX16.out.lt; have hrz := HR16.out.lt; have HO16 : Hid (LOwn 74 15 (exc x (ClE CK CN CA CD CE)) w16 lo0 (.slice (some ⟨g7, 0, none⟩) (n + 1 + 1) c7) (n + 1 + 1)) := HO15.out.grow (exc.keeps (ClE.keeps CK CN CA CD CE)) hg hp0; clear HO15; clear hv hlo hp hg HP15 HG15 HR15 HX15))
   obtain ⟨W17, hW17⟩ : ∃ W, W = (w16.setCell ⟨x, 9, none⟩ (.slice (some ⟨w16.heap.size, 0, none⟩) 1 1)).alloc (.cells #[.int .i64 k0_1, .int .i64 k1_1, .int .i64 k2_1, .string s3_1, .string s4_1, .int .i64 k5_1, .int .i64 k6_1, .int .i64 k7_1, .string s8_1, .slice a9_1 l9_1 c9_1, .slice a10_1 l10_1 c10_1] 36) := ⟨_, rfl⟩
   have HP17 : Hid (PaS W17 pb b c T s5) := by rw [hW17]; exact (HP16.out.setR hxp hxb 9 _).allocI _
   have HG17 : Hid (GrowA pb w W17) := by rw [hW17]; exact (HG16.out.setR hxw 9 _).alloc _
   have HR17 : Hid (PhZ W17 r) := by rw [hW17]; exact (HR16.out.setO hrx 9 _).allocI _
   have HX17 : Hid (PhB W17 x #[.int .i64 28, .int .i64 0, .int .i64 0, .string ⟨#[]⟩, .string ⟨#[]⟩, .int .i64 0, .int .i64 0, .int .i64 0, .string ⟨#[]⟩, .slice (some ⟨w16.heap.size, 0, none⟩) 1 1, .slice (some ⟨g7, 0, none⟩) (n + 1 + 1) c7]) := by rw [hW17]; exact (HX16.out.setAt 9 (.slice (some ⟨w16.heap.size, 0, none⟩) 1 1)).allocI _
   have HA17 : Hid (Phs W17 lo0 1 (fun _ => p) (.slice (some ⟨w16.heap.size, 0, none⟩) 1 1)) := by rw [hW17]; exact (phs_at (by simp) (HV1_16.out.setR hlo1 9 _) hlz1 rfl).mono (by omega)
   have HC17 : Hid (LOwn 74 15 (ClE CK CN CA CD CE) W17 lo0 (.slice (some ⟨g7, 0, none⟩) (n + 1 + 1) c7) (n + 2)) := by rw [hW17]; exact ((HO16.out.setX (ClE.keeps CK CN CA CD CE) hne 9 _).below (exc.keeps (ClE.keeps CK CN CA CD CE)) ((Below.refl _ _).alloc (Nat.le_refl _) _)).unExc (ClE.keeps CK CN CA CD CE)
   rw [← hW17]
   clear hW17 HP16 HG16 HR16 HX16 HV1_16 HO16 hxz hrz m0 j0 m1 j1 m2 j2 m3 j3 m4 j4 m5 j5 m6 j6 m7 j7 m8 j8 m9 j9 m10 j10
   obtain ⟨⟨y0, y1, y2, y3, y4, y5, y6, y7, y8, y9, y10⟩, z0, z1, z2, z3, z4, z5, z6, z7, z8, z9, z10⟩ := HR17.out.cells
   obtain ⟨⟨m0, m1, m2, m3, m4, m5, m6, m7, m8, m9, m10⟩, j0, j1, j2, j3, j4, j5, j6, j7, j8, j9, j10⟩ := HX17.out.cells
   go_wp2
   refine bodyPost_ret (v := .agg #[.int .i64 28, .int .i64 0, .int .i64 0, .string ⟨#[]⟩, .string ⟨#[]⟩, .int .i64 0, .int .i64 0, .int .i64 0, .string ⟨#[]⟩, .slice (some ⟨w16.heap.size, 0, none⟩) 1 1, .slice (some ⟨g7, 0, none⟩) (n + 1 + 1) c7]) (by simp [results, Tryz.results82, go_sem, y0, y1, y2, y3, y4, y5, y6, y7, y8, y9, y10]) rfl ⟨[.int .i64 28, .int .i64 0, .int .i64 0, .string ⟨#[]⟩, .string ⟨#[]⟩, .int .i64 0, .int .i64 0, .int .i64 0, .string ⟨#[]⟩, .slice (some ⟨w16.heap.size, 0, none⟩) 1 1, .slice (some ⟨g7, 0, none⟩) (n + 1 + 1) c7], ?_, rfl, ?_, ?_⟩
   · refine Tre.mono (lo := lo0) ?_ (by have := HRW.out; omega)
     refine tre_flwor (va := .slice (some ⟨w16.heap.size, 0, none⟩) 1 1) (vc := (.slice (some ⟨g7, 0, none⟩) (n + 1 + 1) c7)) ?_ ?_
     · (repeat (first | with_reducible refine Phs.setR ?_ hl0 _ _ | with_reducible refine Phs.allocI ?_ _ | with_reducible exact HA17.out))
     · (repeat (first | with_reducible refine LOwn.setR (ClE.keeps CK CN CA CD CE) ?_ hl0 _ _ | with_reducible exact HC17.out))
   · (repeat (first | with_reducible refine PaS.setR ?_ hrp hrb _ _ | with_reducible refine PaS.allocI ?_ _ | exact HP17.out))
   · (repeat (first | with_reducible refine GrowA.setR ?_ HRW.out _ _ | with_reducible refine GrowA.alloc ?_ _ | exact HG17.out))
end Go.Proofs.YtbnlekhjgkojlaaGreatDoor
