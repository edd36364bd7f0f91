/-
  THE PARSER's single, where only four tokens are seen.
-/
import Derived.Test.YteapocgpenokfaaGreatDoorPaRecS
import Derived.Test.YteapocgpenokfaaGreatDoorPaRecD
set_option linter.unusedVariables false
namespace Go.Proofs.YteapocgpenokfaaGreatDoor
set_option maxRecDepth 100000
open Go.RowKit

theorem PhB.drewK {w : World} {r : Nat} {v : Array Value} (h : PhB w r v) (q : Nat) : PhB (w.drewN q) r v := h
theorem TkB.drewK {w : World} {r : Nat} {v : Array Value} (h : TkB w r v) (q : Nat) : TkB (w.drewN q) r v := h
theorem PaS.drewK {w : World} {pb b c : Nat} {T : List Tok} {st : Pst} (h : PaS w pb b c T st) (q : Nat) : PaS (w.drewN q) pb b c T st := h.below (below_drewA (Below.refl _ _) q)
theorem GrowA.drewK {pb : Nat} {w wr : World} (h : GrowA pb w wr) (q : Nat) : GrowA pb w (wr.drewN q) := h
theorem Leave.drewK {w : World} {pb x : Nat} (h : Leave w pb x) (q : Nat) : Leave (w.drewN q) pb x := h
def opIfA : Oper := { dst := some 52, op := Op.move (Operand.tmp 0), type := 74, pos := "parse.go:142", after := #[{ on := 3, ground := Ground.guard }], guard := some (3, true) }
theorem opIfA_eq : opIfA = { dst := some 52, op := Op.move (Operand.tmp 0), type := 74, pos := "parse.go:142", after := #[{ on := 3, ground := Ground.guard }], guard := some (3, true) } := rfl
def opIfB : Oper := { dst := some 55, op := Op.binOp BinOp.eql 41 (Operand.tmp 53) (Operand.tmp 54) 41, type := 4, pos := "parse.go:142", after := #[{ on := 5, ground := Ground.data }, { on := 6, ground := Ground.data }, { on := 3, ground := Ground.guard }], guard := some (3, true) }
theorem opIfB_eq : opIfB = { dst := some 55, op := Op.binOp BinOp.eql 41 (Operand.tmp 53) (Operand.tmp 54) 41, type := 4, pos := "parse.go:142", after := #[{ on := 5, ground := Ground.data }, { on := 6, ground := Ground.data }, { on := 3, ground := Ground.guard }], guard := some (3, true) } := rfl
set_option maxHeartbeats 3200000 in
theorem single_runs {pb b c : Nat} {T : List Tok} {st st1 : Pst} (hT : T.length ≤ 200) (hat : st.at' ≤ 300) (hat0 : (enterM T st (sbM (seeM T st 0))).at' ≤ 300) (ho : st.opn ≤ 100) (hop : 1 ≤ st1.opn ∧ st1.opn ≤ 200) (hc : Cls (seeM T st 0)) (hc0 : Cls (seeM T (enterM T st (sbM (seeM T st 0))) 0)) (hc1 : Cls (seeM T (enterM T st (sbM (seeM T st 0))) 1)) (hpo : 4 ≠ pb) {w : World} (h : PaS w pb b c T st) (hot : OpTab w) (HS : ∀ {w : World}, PaS w pb b c T (enterM T st (sbM (seeM T st 0))) → OpTab w → Calls Tryz.prog 67 #[.pointer (some ⟨pb, 0, none⟩), .int .i64 0] w fun e w' => ∃ v, PhV v ∧ e = .returned v ∧ PaS w' pb b c T st1 ∧ GrowA pb w w') : Calls Tryz.prog 53 #[.pointer (some ⟨pb, 0, none⟩)] w fun e w' => ∃ v, PhV v ∧ e = .returned v ∧ PaS w' pb b c T { st1 with opn := st1.opn - 1 } ∧ GrowA pb w w' := by
  have HOT : Hid (OpTab w) := hot
  obtain ⟨beg, hbeg⟩ : ∃ b, b = sbM (seeM T st 0) := ⟨_, rfl⟩
  have HSB : Hid (∀ {w : World}, PaS w pb b c T st → Calls Tryz.prog 34 #[.pointer (some ⟨pb, 0, none⟩)] w fun e w' => e = .returned (.bool beg) ∧ Below w.heap.size w w') := fun {w} h => by rw [hbeg]; exact singleBegins_is h hT hat hc
  rw [← hbeg] at HS hat0 hc0 hc1
  have HBI : Hid (∀ {W : World}, PaS W pb b c T (enterM T st beg) → GrowA pb w W → Calls Tryz.prog 67 #[.pointer (some ⟨pb, 0, none⟩), .int .i64 0] W fun e w' => ∃ v, PhV v ∧ e = .returned v ∧ PaS w' pb b c T st1 ∧ GrowA pb W w') := fun {W} h hg => HS h (HOT.out.grow hg hpo)
  obtain ⟨⟨vk, vs, vn⟩, hv⟩ : ∃ u, seeM T (enterM T st beg) 1 = u := ⟨_, rfl⟩
  have HV : Hid (seeM T (enterM T st beg) 1 = ⟨vk, vs, vn⟩) := hv
  have hk4 : (vk == 4) = false := by have k := (cls_no hc1).2.1; rw [hv] at k; exact k
  have hfk := field_kind
  clear HS hbeg hc hc1 hv hot
  have hpl := h.pl
  have hbl := h.bl
  rcases hc0 with hu | hu | hu | hu
  · skip
    go_enter_defers Tryz.func53, Tryz.ntmps53
    go_upto_region 1 with fail
    obtain ⟨W1, hW1⟩ : ∃ W, W = w.alloc (.cells #[.int .i64 0, .int .i64 0, .int .i64 0, .string ⟨#[]⟩, .string ⟨#[]⟩, .int .i64 0, .int .i64 0, .int .i64 0, .string ⟨#[]⟩, .slice none 0 0, .slice none 0 0] 35) := ⟨_, rfl⟩
    have HG1 : Hid (GrowA pb w W1) := by rw [hW1]; exact (GrowA.refl _ _).alloc _
    have HP1 : Hid (PaS W1 pb b c T st) := by rw [hW1]; exact h.allocI _
    have HR1 : Hid (PhB W1 w.heap.size #[.int .i64 0, .int .i64 0, .int .i64 0, .string ⟨#[]⟩, .string ⟨#[]⟩, .int .i64 0, .int .i64 0, .int .i64 0, .string ⟨#[]⟩, .slice none 0 0, .slice none 0 0]) := by rw [hW1]; exact PhB.new w _
    rw [← hW1]
    obtain ⟨r, hr⟩ : ∃ r, r = w.heap.size := ⟨_, rfl⟩
    have HRW : Hid (w.heap.size ≤ r) := Nat.le_of_eq hr.symm
    have hrp : r ≠ pb := by omega
    have hrb : r ≠ b := by omega
    rw [← hr] at HR1 ⊢
    clear hW1 hr h hpl hbl
    go_upto_region 4 with (first
      | (go_at_call 34; (first | refine (HSB.out HP1.out).mono ?_ | refine (HSB.out (HP1.out.allocI _) ).mono ?_ | refine (HSB.out ((HP1.out.allocI _).allocI _) ).mono ?_); rintro e w2 ⟨rfl, hb⟩; have HG2 : Hid (GrowA pb w w2) := (by first | exact HG1.out.below hb | exact (HG1.out.alloc _).below hb | exact ((HG1.out.alloc _).alloc _).below hb); have HP2 : Hid (PaS w2 pb b c T st) := (by first | exact HP1.out.below hb | exact (HP1.out.allocI _).below hb | exact ((HP1.out.allocI _).allocI _).below hb); have HR2 : Hid (PhB w2 r #[.int .i64 0, .int .i64 0, .int .i64 0, .string ⟨#[]⟩, .string ⟨#[]⟩, .int .i64 0, .int .i64 0, .int .i64 0, .string ⟨#[]⟩, .slice none 0 0, .slice none 0 0]) := (by first | exact HR1.out.below hb | exact (HR1.out.allocI _).below hb | exact ((HR1.out.allocI _).allocI _).below hb); clear hb HP1 HG1 HR1)
      | (go_at_call 33; (first | refine (enter_is HP2.out _ ho).mono ?_ | refine (enter_is (HP2.out.allocI _) _ ho).mono ?_); rintro e w3 ⟨q, rfl, hl, hp, hg, hq⟩; have HG3 : Hid (GrowA pb w w3) := (by first | exact HG2.out.trans hg | exact (HG2.out.alloc _).trans hg); have HP3 : Hid (PaS w3 pb b c T (enterM T st beg)) := hp; have HR3 : Hid (PhB w3 r #[.int .i64 0, .int .i64 0, .int .i64 0, .string ⟨#[]⟩, .string ⟨#[]⟩, .int .i64 0, .int .i64 0, .int .i64 0, .string ⟨#[]⟩, .slice none 0 0, .slice none 0 0]) := (by first | exact HR2.out.grow hg hrp | exact (HR2.out.allocI _).grow hg hrp); have HL3 : Hid (Leave w3 pb q) := hl; have hrq : r ≠ q := (by have k1 := HR2.out.lt; first | omega | (simp at hq; omega)); clear hl hp hg hq HP2 HG2 HR2)
      | (go_at_call 50; (first | refine (see_lit HP3.out 1 (by omega) hT hat0 HV.out).mono ?_ | refine (see_lit (HP3.out.allocI _) 1 (by omega) hT hat0 HV.out).mono ?_ | refine (see_lit ((HP3.out.allocI _).allocI _) 1 (by omega) hT hat0 HV.out).mono ?_); rintro e w4 ⟨rfl, hb⟩; have HG4 : Hid (GrowA pb w w4) := (by first | exact HG3.out.below hb | exact (HG3.out.alloc _).below hb | exact ((HG3.out.alloc _).alloc _).below hb); have HP4 : Hid (PaS w4 pb b c T (enterM T st beg)) := (by first | exact HP3.out.below hb | exact (HP3.out.allocI _).below hb | exact ((HP3.out.allocI _).allocI _).below hb); have HR4 : Hid (PhB w4 r #[.int .i64 0, .int .i64 0, .int .i64 0, .string ⟨#[]⟩, .string ⟨#[]⟩, .int .i64 0, .int .i64 0, .int .i64 0, .string ⟨#[]⟩, .slice none 0 0, .slice none 0 0]) := (by first | exact HR3.out.below hb | exact (HR3.out.allocI _).below hb | exact ((HR3.out.allocI _).allocI _).below hb); have HL4 : Hid (Leave w4 pb q) := (by first | exact HL3.out.below hb | exact (HL3.out.allocI _).below hb | exact ((HL3.out.allocI _).allocI _).below hb); clear hb HP3 HG3 HR3 HL3)
      | (go_at_call 50; (first | refine (see_lit HP4.out 0 (by omega) hT hat0 hu).mono ?_ | refine (see_lit (HP4.out.allocI _) 0 (by omega) hT hat0 hu).mono ?_ | refine (see_lit ((HP4.out.allocI _).allocI _) 0 (by omega) hT hat0 hu).mono ?_); rintro e w5 ⟨rfl, hb⟩; have HG5 : Hid (GrowA pb w w5) := (by first | exact HG4.out.below hb | exact (HG4.out.alloc _).below hb | exact ((HG4.out.alloc _).alloc _).below hb); have HP5 : Hid (PaS w5 pb b c T (enterM T st beg)) := (by first | exact HP4.out.below hb | exact (HP4.out.allocI _).below hb | exact ((HP4.out.allocI _).allocI _).below hb); have HR5 : Hid (PhB w5 r #[.int .i64 0, .int .i64 0, .int .i64 0, .string ⟨#[]⟩, .string ⟨#[]⟩, .int .i64 0, .int .i64 0, .int .i64 0, .string ⟨#[]⟩, .slice none 0 0, .slice none 0 0]) := (by first | exact HR4.out.below hb | exact (HR4.out.allocI _).below hb | exact ((HR4.out.allocI _).allocI _).below hb); have HL5 : Hid (Leave w5 pb q) := (by first | exact HL4.out.below hb | exact (HL4.out.allocI _).below hb | exact ((HL4.out.allocI _).allocI _).below hb); clear hb HP4 HG4 HR4 HL4))
    obtain ⟨w6, hw6⟩ : ∃ W, W = w5.alloc (.cells #[.int .i64 0, .string ⟨#[]⟩, .int .i64 0] 41) := ⟨_, rfl⟩
    obtain ⟨x, hx⟩ : ∃ x, x = w5.heap.size := ⟨_, rfl⟩
    have HG6 : Hid (GrowA pb w w6) := by rw [hw6]; exact HG5.out.alloc _
    have HP6 : Hid (PaS w6 pb b c T (enterM T st beg)) := by rw [hw6]; exact HP5.out.allocI _
    have HR6 : Hid (PhB w6 r #[.int .i64 0, .int .i64 0, .int .i64 0, .string ⟨#[]⟩, .string ⟨#[]⟩, .int .i64 0, .int .i64 0, .int .i64 0, .string ⟨#[]⟩, .slice none 0 0, .slice none 0 0]) := by rw [hw6]; exact HR5.out.allocI _
    have HL6 : Hid (Leave w6 pb q) := by rw [hw6]; exact HL5.out.allocI _
    have HX6 : Hid (TkB w6 x #[.int .i64 0, .string ⟨#[]⟩, .int .i64 0]) := by rw [hw6, hx]; exact TkB.new w5 _
    obtain ⟨c0', c1', c2'⟩ := HX6.out.cells
    rw [← hw6, ← hx]
    clear hw6 hx HG5 HP5 HR5 HL5
    go_quiet (fail)
    obtain ⟨w7, hw7⟩ : ∃ W, W = w6.drewN nq := ⟨_, rfl⟩
    have HG7 : Hid (GrowA pb w w7) := by rw [hw7]; exact HG6.out.drewK nq
    have HP7 : Hid (PaS w7 pb b c T (enterM T st beg)) := by rw [hw7]; exact HP6.out.drewK nq
    have HR7 : Hid (PhB w7 r #[.int .i64 0, .int .i64 0, .int .i64 0, .string ⟨#[]⟩, .string ⟨#[]⟩, .int .i64 0, .int .i64 0, .int .i64 0, .string ⟨#[]⟩, .slice none 0 0, .slice none 0 0]) := by rw [hw7]; exact HR6.out.drewK nq
    have HL7 : Hid (Leave w7 pb q) := by rw [hw7]; exact HL6.out.drewK nq
    have HX7 : Hid (TkB w7 x #[.int .i64 0, .string ⟨#[]⟩, .int .i64 0]) := by rw [hw7]; exact HX6.out.drewK nq
    obtain ⟨c0, c1, c2⟩ := HX7.out.cells
    rw [← hw7]
    clear hw7 HG6 HP6 HR6 HL6 HX6 c0' c1' c2'
    go_upto_region 6 with fail
    go_quiet (fail)
    obtain ⟨w8, hw8⟩ : ∃ W, W = w7.drewN nq := ⟨_, rfl⟩
    have HG8 : Hid (GrowA pb w w8) := by rw [hw8]; exact HG7.out.drewK nq
    have HP8 : Hid (PaS w8 pb b c T (enterM T st beg)) := by rw [hw8]; exact HP7.out.drewK nq
    have HR8 : Hid (PhB w8 r #[.int .i64 0, .int .i64 0, .int .i64 0, .string ⟨#[]⟩, .string ⟨#[]⟩, .int .i64 0, .int .i64 0, .int .i64 0, .string ⟨#[]⟩, .slice none 0 0, .slice none 0 0]) := by rw [hw8]; exact HR7.out.drewK nq
    have HL8 : Hid (Leave w8 pb q) := by rw [hw8]; exact HL7.out.drewK nq
    have HX8 : Hid (TkB w8 x #[.int .i64 0, .string ⟨#[]⟩, .int .i64 0]) := by rw [hw8]; exact HX7.out.drewK nq
    clear c0 c1 c2
    obtain ⟨c0, c1, c2⟩ := HX8.out.cells
    rw [← hw8]
    clear hw8 HG7 HP7 HR7 HL7 HX7
    go_upto_region 8 with fail
    go_quiet (fail)
    obtain ⟨w9, hw9⟩ : ∃ W, W = w8.drewN nq := ⟨_, rfl⟩
    have HG9 : Hid (GrowA pb w w9) := by rw [hw9]; exact HG8.out.drewK nq
    have HP9 : Hid (PaS w9 pb b c T (enterM T st beg)) := by rw [hw9]; exact HP8.out.drewK nq
    have HR9 : Hid (PhB w9 r #[.int .i64 0, .int .i64 0, .int .i64 0, .string ⟨#[]⟩, .string ⟨#[]⟩, .int .i64 0, .int .i64 0, .int .i64 0, .string ⟨#[]⟩, .slice none 0 0, .slice none 0 0]) := by rw [hw9]; exact HR8.out.drewK nq
    have HL9 : Hid (Leave w9 pb q) := by rw [hw9]; exact HL8.out.drewK nq
    have HX9 : Hid (TkB w9 x #[.int .i64 0, .string ⟨#[]⟩, .int .i64 0]) := by rw [hw9]; exact HX8.out.drewK nq
    clear c0 c1 c2
    obtain ⟨c0, c1, c2⟩ := HX9.out.cells
    rw [← hw9]
    clear hw9 HG8 HP8 HR8 HL8 HX8
    have HSS : Hid (∀ W, Below w9.heap.size w9 W → W.cell? ⟨x, 0, none⟩ = some (.int .i64 0) ∧ W.cell? ⟨x, 1, none⟩ = some (.string ⟨#[]⟩) ∧ W.cell? ⟨x, 2, none⟩ = some (.int .i64 0)) := fun W hb => (HX9.out.below hb).cells
    have CW : Hid (∀ W, Below w9.heap.size w9 W → Calls Tryz.prog 63 #[.string ⟨#[105, 102]⟩] W fun e w' => e = .returned (.agg #[.int .i64 1, .string ⟨#[105, 102]⟩, .int .i64 0]) ∧ Below w9.heap.size w9 w') := fun W hW => (word_is _ W).mono fun e w' ⟨k1, k2⟩ => ⟨k1, hW.trans (k2.mono hW.size)⟩
    go_upto_region 10 with fail
    rw [← opIfA_eq, ← opIfB_eq]
    have hopA := opIfA_eq
    have hopB := opIfB_eq
    go_region_held3 (fun W => W.cell? ⟨x, 0, none⟩ = some (.int .i64 0) ∧ W.cell? ⟨x, 1, none⟩ = some (.string ⟨#[]⟩) ∧ W.cell? ⟨x, 2, none⟩ = some (.int .i64 0))
      ((refine HSS.out _ ?_; repeat (first | exact Hid.out (by assumption) | exact Below.refl _ _ | refine Below.drew ?_)))
      (first
        | (go_at_call 63; refine (CW.out _ ?_).mono ?_; (focus (repeat (first | exact Hid.out (by assumption) | exact Below.refl _ _ | refine Below.drew ?_))); rintro e w10 ⟨rfl, hb⟩; have HB10 : Hid (Below w9.heap.size w9 w10) := hb; clear hb))
    have HG10 : Hid (GrowA pb w w10) := HG9.out.below HB10.out
    have HP10 : Hid (PaS w10 pb b c T (enterM T st beg)) := HP9.out.below HB10.out
    have HR10 : Hid (PhB w10 r #[.int .i64 0, .int .i64 0, .int .i64 0, .string ⟨#[]⟩, .string ⟨#[]⟩, .int .i64 0, .int .i64 0, .int .i64 0, .string ⟨#[]⟩, .slice none 0 0, .slice none 0 0]) := HR9.out.below HB10.out
    have HL10 : Hid (Leave w10 pb q) := HL9.out.below HB10.out
    clear hopA hopB c0 c1 c2 HSS CW HG9 HP9 HR9 HL9 HX9 HB10
    go_wp2_with (first
      | (go_at_call 67; (first | refine (HBI.out HP10.out HG10.out).mono ?_ | refine (HBI.out (HP10.out.allocI _) (HG10.out.alloc _)).mono ?_ | refine (HBI.out ((HP10.out.allocI _).allocI _) ((HG10.out.alloc _).alloc _)).mono ?_); rintro e w11 ⟨v, hv, rfl, hp, hg⟩; obtain ⟨k0, k1, k2, k5, k6, k7, s3, s4, s8, a9, a10, l9, c9, l10, c10, rfl⟩ := hv; have HG11 : Hid (GrowA pb w w11) := (by first | exact HG10.out.trans hg | exact (HG10.out.alloc _).trans hg | exact ((HG10.out.alloc _).alloc _).trans hg); have HP11 : Hid (PaS w11 pb b c T st1) := hp; have HR11 : Hid (PhB w11 r #[.int .i64 0, .int .i64 0, .int .i64 0, .string ⟨#[]⟩, .string ⟨#[]⟩, .int .i64 0, .int .i64 0, .int .i64 0, .string ⟨#[]⟩, .slice none 0 0, .slice none 0 0]) := (by first | exact HR10.out.grow hg hrp | exact (HR10.out.allocI _).grow hg hrp | exact ((HR10.out.allocI _).allocI _).grow hg hrp); have HL11 : Hid (Leave w11 pb q) := (by first | exact HL10.out.grow hg | exact (HL10.out.allocI _).grow hg | exact ((HL10.out.allocI _).allocI _).grow hg); obtain ⟨⟨y0, y1, y2, y3, y4, y5, y6, y7, y8, y9, y10⟩, z0, z1, z2, z3, z4, z5, z6, z7, z8, z9, z10⟩ := HR11.out.cells; clear hp hg HP10 HG10 HR10 HL10))
    obtain ⟨Wd, hWd⟩ : ∃ W, W = (((((((((((w11.setCell ⟨r, 0, none⟩ (.int .i64 k0)).setCell ⟨r, 1, none⟩ (.int .i64 k1)).setCell ⟨r, 2, none⟩ (.int .i64 k2)).setCell ⟨r, 3, none⟩ (.string s3)).setCell ⟨r, 4, none⟩ (.string s4)).setCell ⟨r, 5, none⟩ (.int .i64 k5)).setCell ⟨r, 6, none⟩ (.int .i64 k6)).setCell ⟨r, 7, none⟩ (.int .i64 k7)).setCell ⟨r, 8, none⟩ (.string s8)).setCell ⟨r, 9, none⟩ (.slice a9 l9 c9)).setCell ⟨r, 10, none⟩ (.slice a10 l10 c10)) := ⟨_, rfl⟩
    have HD : Hid (PaS Wd pb b c T st1) := by
      refine HidOf ?_
      rw [hWd]
      (repeat (first | with_reducible refine PaS.setR ?_ hrp hrb _ _ | with_reducible refine PaS.allocI ?_ _ | exact HP11.out))
    have HE : Hid (GrowA pb w Wd) := by
      refine HidOf ?_
      rw [hWd]
      (repeat (first | with_reducible refine GrowA.setR ?_ HRW.out _ _ | with_reducible refine GrowA.alloc ?_ _ | exact HG11.out))
    have HQ : Hid (Leave Wd pb q) := by
      refine HidOf ?_
      rw [hWd]
      (repeat (first | with_reducible refine Leave.setR ?_ hrq _ _ | exact HL11.out))
    have HZ : Hid (PhB Wd r #[.int .i64 k0, .int .i64 k1, .int .i64 k2, .string s3, .string s4, .int .i64 k5, .int .i64 k6, .int .i64 k7, .string s8, .slice a9 l9 c9, .slice a10 l10 c10]) := by rw [hWd]; exact PhB.put HR11.out
    rw [← hWd]
    clear hWd
    refine leaves_cons (f := 49) (args := #[.pointer (some ⟨q, 0, none⟩)]) (by simp) (by simp [go_sem]) ?_
    refine (leave_is HD.out HQ.out hop .returning).mono ?_
    rintro e u' w99 ⟨rfl, rfl, hp, hg⟩
    obtain ⟨⟨u0, u1, u2, u3, u4, u5, u6, u7, u8, u9, u10⟩, _⟩ := (HZ.out.grow hg hrp).cells
    exact ⟨.agg #[.int .i64 k0, .int .i64 k1, .int .i64 k2, .string s3, .string s4, .int .i64 k5, .int .i64 k6, .int .i64 k7, .string s8, .slice a9 l9 c9, .slice a10 l10 c10], by simp [results, Tryz.results53, go_sem, u0, u1, u2, u3, u4, u5, u6, u7, u8, u9, u10], ⟨_, PhV.mk, rfl, hp, HE.out.trans hg⟩⟩
  · skip
    go_enter_defers Tryz.func53, Tryz.ntmps53
    go_upto_region 1 with fail
    obtain ⟨W1, hW1⟩ : ∃ W, W = w.alloc (.cells #[.int .i64 0, .int .i64 0, .int .i64 0, .string ⟨#[]⟩, .string ⟨#[]⟩, .int .i64 0, .int .i64 0, .int .i64 0, .string ⟨#[]⟩, .slice none 0 0, .slice none 0 0] 35) := ⟨_, rfl⟩
    have HG1 : Hid (GrowA pb w W1) := by rw [hW1]; exact (GrowA.refl _ _).alloc _
    have HP1 : Hid (PaS W1 pb b c T st) := by rw [hW1]; exact h.allocI _
    have HR1 : Hid (PhB W1 w.heap.size #[.int .i64 0, .int .i64 0, .int .i64 0, .string ⟨#[]⟩, .string ⟨#[]⟩, .int .i64 0, .int .i64 0, .int .i64 0, .string ⟨#[]⟩, .slice none 0 0, .slice none 0 0]) := by rw [hW1]; exact PhB.new w _
    rw [← hW1]
    obtain ⟨r, hr⟩ : ∃ r, r = w.heap.size := ⟨_, rfl⟩
    have HRW : Hid (w.heap.size ≤ r) := Nat.le_of_eq hr.symm
    have hrp : r ≠ pb := by omega
    have hrb : r ≠ b := by omega
    rw [← hr] at HR1 ⊢
    clear hW1 hr h hpl hbl
    go_upto_region 4 with (first
      | (go_at_call 34; (first | refine (HSB.out HP1.out).mono ?_ | refine (HSB.out (HP1.out.allocI _) ).mono ?_ | refine (HSB.out ((HP1.out.allocI _).allocI _) ).mono ?_); rintro e w2 ⟨rfl, hb⟩; have HG2 : Hid (GrowA pb w w2) := (by first | exact HG1.out.below hb | exact (HG1.out.alloc _).below hb | exact ((HG1.out.alloc _).alloc _).below hb); have HP2 : Hid (PaS w2 pb b c T st) := (by first | exact HP1.out.below hb | exact (HP1.out.allocI _).below hb | exact ((HP1.out.allocI _).allocI _).below hb); have HR2 : Hid (PhB w2 r #[.int .i64 0, .int .i64 0, .int .i64 0, .string ⟨#[]⟩, .string ⟨#[]⟩, .int .i64 0, .int .i64 0, .int .i64 0, .string ⟨#[]⟩, .slice none 0 0, .slice none 0 0]) := (by first | exact HR1.out.below hb | exact (HR1.out.allocI _).below hb | exact ((HR1.out.allocI _).allocI _).below hb); clear hb HP1 HG1 HR1)
      | (go_at_call 33; (first | refine (enter_is HP2.out _ ho).mono ?_ | refine (enter_is (HP2.out.allocI _) _ ho).mono ?_); rintro e w3 ⟨q, rfl, hl, hp, hg, hq⟩; have HG3 : Hid (GrowA pb w w3) := (by first | exact HG2.out.trans hg | exact (HG2.out.alloc _).trans hg); have HP3 : Hid (PaS w3 pb b c T (enterM T st beg)) := hp; have HR3 : Hid (PhB w3 r #[.int .i64 0, .int .i64 0, .int .i64 0, .string ⟨#[]⟩, .string ⟨#[]⟩, .int .i64 0, .int .i64 0, .int .i64 0, .string ⟨#[]⟩, .slice none 0 0, .slice none 0 0]) := (by first | exact HR2.out.grow hg hrp | exact (HR2.out.allocI _).grow hg hrp); have HL3 : Hid (Leave w3 pb q) := hl; have hrq : r ≠ q := (by have k1 := HR2.out.lt; first | omega | (simp at hq; omega)); clear hl hp hg hq HP2 HG2 HR2)
      | (go_at_call 50; (first | refine (see_lit HP3.out 1 (by omega) hT hat0 HV.out).mono ?_ | refine (see_lit (HP3.out.allocI _) 1 (by omega) hT hat0 HV.out).mono ?_ | refine (see_lit ((HP3.out.allocI _).allocI _) 1 (by omega) hT hat0 HV.out).mono ?_); rintro e w4 ⟨rfl, hb⟩; have HG4 : Hid (GrowA pb w w4) := (by first | exact HG3.out.below hb | exact (HG3.out.alloc _).below hb | exact ((HG3.out.alloc _).alloc _).below hb); have HP4 : Hid (PaS w4 pb b c T (enterM T st beg)) := (by first | exact HP3.out.below hb | exact (HP3.out.allocI _).below hb | exact ((HP3.out.allocI _).allocI _).below hb); have HR4 : Hid (PhB w4 r #[.int .i64 0, .int .i64 0, .int .i64 0, .string ⟨#[]⟩, .string ⟨#[]⟩, .int .i64 0, .int .i64 0, .int .i64 0, .string ⟨#[]⟩, .slice none 0 0, .slice none 0 0]) := (by first | exact HR3.out.below hb | exact (HR3.out.allocI _).below hb | exact ((HR3.out.allocI _).allocI _).below hb); have HL4 : Hid (Leave w4 pb q) := (by first | exact HL3.out.below hb | exact (HL3.out.allocI _).below hb | exact ((HL3.out.allocI _).allocI _).below hb); clear hb HP3 HG3 HR3 HL3)
      | (go_at_call 50; (first | refine (see_lit HP4.out 0 (by omega) hT hat0 hu).mono ?_ | refine (see_lit (HP4.out.allocI _) 0 (by omega) hT hat0 hu).mono ?_ | refine (see_lit ((HP4.out.allocI _).allocI _) 0 (by omega) hT hat0 hu).mono ?_); rintro e w5 ⟨rfl, hb⟩; have HG5 : Hid (GrowA pb w w5) := (by first | exact HG4.out.below hb | exact (HG4.out.alloc _).below hb | exact ((HG4.out.alloc _).alloc _).below hb); have HP5 : Hid (PaS w5 pb b c T (enterM T st beg)) := (by first | exact HP4.out.below hb | exact (HP4.out.allocI _).below hb | exact ((HP4.out.allocI _).allocI _).below hb); have HR5 : Hid (PhB w5 r #[.int .i64 0, .int .i64 0, .int .i64 0, .string ⟨#[]⟩, .string ⟨#[]⟩, .int .i64 0, .int .i64 0, .int .i64 0, .string ⟨#[]⟩, .slice none 0 0, .slice none 0 0]) := (by first | exact HR4.out.below hb | exact (HR4.out.allocI _).below hb | exact ((HR4.out.allocI _).allocI _).below hb); have HL5 : Hid (Leave w5 pb q) := (by first | exact HL4.out.below hb | exact (HL4.out.allocI _).below hb | exact ((HL4.out.allocI _).allocI _).below hb); clear hb HP4 HG4 HR4 HL4))
    obtain ⟨w6, hw6⟩ : ∃ W, W = w5.alloc (.cells #[.int .i64 5, .string ⟨#[40]⟩, .int .i64 0] 41) := ⟨_, rfl⟩
    obtain ⟨x, hx⟩ : ∃ x, x = w5.heap.size := ⟨_, rfl⟩
    have HG6 : Hid (GrowA pb w w6) := by rw [hw6]; exact HG5.out.alloc _
    have HP6 : Hid (PaS w6 pb b c T (enterM T st beg)) := by rw [hw6]; exact HP5.out.allocI _
    have HR6 : Hid (PhB w6 r #[.int .i64 0, .int .i64 0, .int .i64 0, .string ⟨#[]⟩, .string ⟨#[]⟩, .int .i64 0, .int .i64 0, .int .i64 0, .string ⟨#[]⟩, .slice none 0 0, .slice none 0 0]) := by rw [hw6]; exact HR5.out.allocI _
    have HL6 : Hid (Leave w6 pb q) := by rw [hw6]; exact HL5.out.allocI _
    have HX6 : Hid (TkB w6 x #[.int .i64 5, .string ⟨#[40]⟩, .int .i64 0]) := by rw [hw6, hx]; exact TkB.new w5 _
    obtain ⟨c0', c1', c2'⟩ := HX6.out.cells
    rw [← hw6, ← hx]
    clear hw6 hx HG5 HP5 HR5 HL5
    go_quiet (fail)
    obtain ⟨w7, hw7⟩ : ∃ W, W = w6.drewN nq := ⟨_, rfl⟩
    have HG7 : Hid (GrowA pb w w7) := by rw [hw7]; exact HG6.out.drewK nq
    have HP7 : Hid (PaS w7 pb b c T (enterM T st beg)) := by rw [hw7]; exact HP6.out.drewK nq
    have HR7 : Hid (PhB w7 r #[.int .i64 0, .int .i64 0, .int .i64 0, .string ⟨#[]⟩, .string ⟨#[]⟩, .int .i64 0, .int .i64 0, .int .i64 0, .string ⟨#[]⟩, .slice none 0 0, .slice none 0 0]) := by rw [hw7]; exact HR6.out.drewK nq
    have HL7 : Hid (Leave w7 pb q) := by rw [hw7]; exact HL6.out.drewK nq
    have HX7 : Hid (TkB w7 x #[.int .i64 5, .string ⟨#[40]⟩, .int .i64 0]) := by rw [hw7]; exact HX6.out.drewK nq
    obtain ⟨c0, c1, c2⟩ := HX7.out.cells
    rw [← hw7]
    clear hw7 HG6 HP6 HR6 HL6 HX6 c0' c1' c2'
    go_upto_region 6 with fail
    go_quiet (fail)
    obtain ⟨w8, hw8⟩ : ∃ W, W = w7.drewN nq := ⟨_, rfl⟩
    have HG8 : Hid (GrowA pb w w8) := by rw [hw8]; exact HG7.out.drewK nq
    have HP8 : Hid (PaS w8 pb b c T (enterM T st beg)) := by rw [hw8]; exact HP7.out.drewK nq
    have HR8 : Hid (PhB w8 r #[.int .i64 0, .int .i64 0, .int .i64 0, .string ⟨#[]⟩, .string ⟨#[]⟩, .int .i64 0, .int .i64 0, .int .i64 0, .string ⟨#[]⟩, .slice none 0 0, .slice none 0 0]) := by rw [hw8]; exact HR7.out.drewK nq
    have HL8 : Hid (Leave w8 pb q) := by rw [hw8]; exact HL7.out.drewK nq
    have HX8 : Hid (TkB w8 x #[.int .i64 5, .string ⟨#[40]⟩, .int .i64 0]) := by rw [hw8]; exact HX7.out.drewK nq
    clear c0 c1 c2
    obtain ⟨c0, c1, c2⟩ := HX8.out.cells
    rw [← hw8]
    clear hw8 HG7 HP7 HR7 HL7 HX7
    go_upto_region 8 with fail
    go_quiet (fail)
    obtain ⟨w9, hw9⟩ : ∃ W, W = w8.drewN nq := ⟨_, rfl⟩
    have HG9 : Hid (GrowA pb w w9) := by rw [hw9]; exact HG8.out.drewK nq
    have HP9 : Hid (PaS w9 pb b c T (enterM T st beg)) := by rw [hw9]; exact HP8.out.drewK nq
    have HR9 : Hid (PhB w9 r #[.int .i64 0, .int .i64 0, .int .i64 0, .string ⟨#[]⟩, .string ⟨#[]⟩, .int .i64 0, .int .i64 0, .int .i64 0, .string ⟨#[]⟩, .slice none 0 0, .slice none 0 0]) := by rw [hw9]; exact HR8.out.drewK nq
    have HL9 : Hid (Leave w9 pb q) := by rw [hw9]; exact HL8.out.drewK nq
    have HX9 : Hid (TkB w9 x #[.int .i64 5, .string ⟨#[40]⟩, .int .i64 0]) := by rw [hw9]; exact HX8.out.drewK nq
    clear c0 c1 c2
    obtain ⟨c0, c1, c2⟩ := HX9.out.cells
    rw [← hw9]
    clear hw9 HG8 HP8 HR8 HL8 HX8
    have HSS : Hid (∀ W, Below w9.heap.size w9 W → W.cell? ⟨x, 0, none⟩ = some (.int .i64 5) ∧ W.cell? ⟨x, 1, none⟩ = some (.string ⟨#[40]⟩) ∧ W.cell? ⟨x, 2, none⟩ = some (.int .i64 0)) := fun W hb => (HX9.out.below hb).cells
    have CW : Hid (∀ W, Below w9.heap.size w9 W → Calls Tryz.prog 63 #[.string ⟨#[105, 102]⟩] W fun e w' => e = .returned (.agg #[.int .i64 1, .string ⟨#[105, 102]⟩, .int .i64 0]) ∧ Below w9.heap.size w9 w') := fun W hW => (word_is _ W).mono fun e w' ⟨k1, k2⟩ => ⟨k1, hW.trans (k2.mono hW.size)⟩
    go_upto_region 10 with fail
    rw [← opIfA_eq, ← opIfB_eq]
    have hopA := opIfA_eq
    have hopB := opIfB_eq
    go_region_held3 (fun W => W.cell? ⟨x, 0, none⟩ = some (.int .i64 5) ∧ W.cell? ⟨x, 1, none⟩ = some (.string ⟨#[40]⟩) ∧ W.cell? ⟨x, 2, none⟩ = some (.int .i64 0))
      ((refine HSS.out _ ?_; repeat (first | exact Hid.out (by assumption) | exact Below.refl _ _ | refine Below.drew ?_)))
      (first
        | (go_at_call 63; refine (CW.out _ ?_).mono ?_; (focus (repeat (first | exact Hid.out (by assumption) | exact Below.refl _ _ | refine Below.drew ?_))); rintro e w10 ⟨rfl, hb⟩; have HB10 : Hid (Below w9.heap.size w9 w10) := hb; clear hb))
    have HG10 : Hid (GrowA pb w w10) := HG9.out.below HB10.out
    have HP10 : Hid (PaS w10 pb b c T (enterM T st beg)) := HP9.out.below HB10.out
    have HR10 : Hid (PhB w10 r #[.int .i64 0, .int .i64 0, .int .i64 0, .string ⟨#[]⟩, .string ⟨#[]⟩, .int .i64 0, .int .i64 0, .int .i64 0, .string ⟨#[]⟩, .slice none 0 0, .slice none 0 0]) := HR9.out.below HB10.out
    have HL10 : Hid (Leave w10 pb q) := HL9.out.below HB10.out
    clear hopA hopB c0 c1 c2 HSS CW HG9 HP9 HR9 HL9 HX9 HB10
    go_wp2_with (first
      | (go_at_call 67; (first | refine (HBI.out HP10.out HG10.out).mono ?_ | refine (HBI.out (HP10.out.allocI _) (HG10.out.alloc _)).mono ?_ | refine (HBI.out ((HP10.out.allocI _).allocI _) ((HG10.out.alloc _).alloc _)).mono ?_); rintro e w11 ⟨v, hv, rfl, hp, hg⟩; obtain ⟨k0, k1, k2, k5, k6, k7, s3, s4, s8, a9, a10, l9, c9, l10, c10, rfl⟩ := hv; have HG11 : Hid (GrowA pb w w11) := (by first | exact HG10.out.trans hg | exact (HG10.out.alloc _).trans hg | exact ((HG10.out.alloc _).alloc _).trans hg); have HP11 : Hid (PaS w11 pb b c T st1) := hp; have HR11 : Hid (PhB w11 r #[.int .i64 0, .int .i64 0, .int .i64 0, .string ⟨#[]⟩, .string ⟨#[]⟩, .int .i64 0, .int .i64 0, .int .i64 0, .string ⟨#[]⟩, .slice none 0 0, .slice none 0 0]) := (by first | exact HR10.out.grow hg hrp | exact (HR10.out.allocI _).grow hg hrp | exact ((HR10.out.allocI _).allocI _).grow hg hrp); have HL11 : Hid (Leave w11 pb q) := (by first | exact HL10.out.grow hg | exact (HL10.out.allocI _).grow hg | exact ((HL10.out.allocI _).allocI _).grow hg); obtain ⟨⟨y0, y1, y2, y3, y4, y5, y6, y7, y8, y9, y10⟩, z0, z1, z2, z3, z4, z5, z6, z7, z8, z9, z10⟩ := HR11.out.cells; clear hp hg HP10 HG10 HR10 HL10))
    obtain ⟨Wd, hWd⟩ : ∃ W, W = (((((((((((w11.setCell ⟨r, 0, none⟩ (.int .i64 k0)).setCell ⟨r, 1, none⟩ (.int .i64 k1)).setCell ⟨r, 2, none⟩ (.int .i64 k2)).setCell ⟨r, 3, none⟩ (.string s3)).setCell ⟨r, 4, none⟩ (.string s4)).setCell ⟨r, 5, none⟩ (.int .i64 k5)).setCell ⟨r, 6, none⟩ (.int .i64 k6)).setCell ⟨r, 7, none⟩ (.int .i64 k7)).setCell ⟨r, 8, none⟩ (.string s8)).setCell ⟨r, 9, none⟩ (.slice a9 l9 c9)).setCell ⟨r, 10, none⟩ (.slice a10 l10 c10)) := ⟨_, rfl⟩
    have HD : Hid (PaS Wd pb b c T st1) := by
      refine HidOf ?_
      rw [hWd]
      (repeat (first | with_reducible refine PaS.setR ?_ hrp hrb _ _ | with_reducible refine PaS.allocI ?_ _ | exact HP11.out))
    have HE : Hid (GrowA pb w Wd) := by
      refine HidOf ?_
      rw [hWd]
      (repeat (first | with_reducible refine GrowA.setR ?_ HRW.out _ _ | with_reducible refine GrowA.alloc ?_ _ | exact HG11.out))
    have HQ : Hid (Leave Wd pb q) := by
      refine HidOf ?_
      rw [hWd]
      (repeat (first | with_reducible refine Leave.setR ?_ hrq _ _ | exact HL11.out))
    have HZ : Hid (PhB Wd r #[.int .i64 k0, .int .i64 k1, .int .i64 k2, .string s3, .string s4, .int .i64 k5, .int .i64 k6, .int .i64 k7, .string s8, .slice a9 l9 c9, .slice a10 l10 c10]) := by rw [hWd]; exact PhB.put HR11.out
    rw [← hWd]
    clear hWd
    refine leaves_cons (f := 49) (args := #[.pointer (some ⟨q, 0, none⟩)]) (by simp) (by simp [go_sem]) ?_
    refine (leave_is HD.out HQ.out hop .returning).mono ?_
    rintro e u' w99 ⟨rfl, rfl, hp, hg⟩
    obtain ⟨⟨u0, u1, u2, u3, u4, u5, u6, u7, u8, u9, u10⟩, _⟩ := (HZ.out.grow hg hrp).cells
    exact ⟨.agg #[.int .i64 k0, .int .i64 k1, .int .i64 k2, .string s3, .string s4, .int .i64 k5, .int .i64 k6, .int .i64 k7, .string s8, .slice a9 l9 c9, .slice a10 l10 c10], by simp [results, Tryz.results53, go_sem, u0, u1, u2, u3, u4, u5, u6, u7, u8, u9, u10], ⟨_, PhV.mk, rfl, hp, HE.out.trans hg⟩⟩
  · skip
    go_enter_defers Tryz.func53, Tryz.ntmps53
    go_upto_region 1 with fail
    obtain ⟨W1, hW1⟩ : ∃ W, W = w.alloc (.cells #[.int .i64 0, .int .i64 0, .int .i64 0, .string ⟨#[]⟩, .string ⟨#[]⟩, .int .i64 0, .int .i64 0, .int .i64 0, .string ⟨#[]⟩, .slice none 0 0, .slice none 0 0] 35) := ⟨_, rfl⟩
    have HG1 : Hid (GrowA pb w W1) := by rw [hW1]; exact (GrowA.refl _ _).alloc _
    have HP1 : Hid (PaS W1 pb b c T st) := by rw [hW1]; exact h.allocI _
    have HR1 : Hid (PhB W1 w.heap.size #[.int .i64 0, .int .i64 0, .int .i64 0, .string ⟨#[]⟩, .string ⟨#[]⟩, .int .i64 0, .int .i64 0, .int .i64 0, .string ⟨#[]⟩, .slice none 0 0, .slice none 0 0]) := by rw [hW1]; exact PhB.new w _
    rw [← hW1]
    obtain ⟨r, hr⟩ : ∃ r, r = w.heap.size := ⟨_, rfl⟩
    have HRW : Hid (w.heap.size ≤ r) := Nat.le_of_eq hr.symm
    have hrp : r ≠ pb := by omega
    have hrb : r ≠ b := by omega
    rw [← hr] at HR1 ⊢
    clear hW1 hr h hpl hbl
    go_upto_region 4 with (first
      | (go_at_call 34; (first | refine (HSB.out HP1.out).mono ?_ | refine (HSB.out (HP1.out.allocI _) ).mono ?_ | refine (HSB.out ((HP1.out.allocI _).allocI _) ).mono ?_); rintro e w2 ⟨rfl, hb⟩; have HG2 : Hid (GrowA pb w w2) := (by first | exact HG1.out.below hb | exact (HG1.out.alloc _).below hb | exact ((HG1.out.alloc _).alloc _).below hb); have HP2 : Hid (PaS w2 pb b c T st) := (by first | exact HP1.out.below hb | exact (HP1.out.allocI _).below hb | exact ((HP1.out.allocI _).allocI _).below hb); have HR2 : Hid (PhB w2 r #[.int .i64 0, .int .i64 0, .int .i64 0, .string ⟨#[]⟩, .string ⟨#[]⟩, .int .i64 0, .int .i64 0, .int .i64 0, .string ⟨#[]⟩, .slice none 0 0, .slice none 0 0]) := (by first | exact HR1.out.below hb | exact (HR1.out.allocI _).below hb | exact ((HR1.out.allocI _).allocI _).below hb); clear hb HP1 HG1 HR1)
      | (go_at_call 33; (first | refine (enter_is HP2.out _ ho).mono ?_ | refine (enter_is (HP2.out.allocI _) _ ho).mono ?_); rintro e w3 ⟨q, rfl, hl, hp, hg, hq⟩; have HG3 : Hid (GrowA pb w w3) := (by first | exact HG2.out.trans hg | exact (HG2.out.alloc _).trans hg); have HP3 : Hid (PaS w3 pb b c T (enterM T st beg)) := hp; have HR3 : Hid (PhB w3 r #[.int .i64 0, .int .i64 0, .int .i64 0, .string ⟨#[]⟩, .string ⟨#[]⟩, .int .i64 0, .int .i64 0, .int .i64 0, .string ⟨#[]⟩, .slice none 0 0, .slice none 0 0]) := (by first | exact HR2.out.grow hg hrp | exact (HR2.out.allocI _).grow hg hrp); have HL3 : Hid (Leave w3 pb q) := hl; have hrq : r ≠ q := (by have k1 := HR2.out.lt; first | omega | (simp at hq; omega)); clear hl hp hg hq HP2 HG2 HR2)
      | (go_at_call 50; (first | refine (see_lit HP3.out 1 (by omega) hT hat0 HV.out).mono ?_ | refine (see_lit (HP3.out.allocI _) 1 (by omega) hT hat0 HV.out).mono ?_ | refine (see_lit ((HP3.out.allocI _).allocI _) 1 (by omega) hT hat0 HV.out).mono ?_); rintro e w4 ⟨rfl, hb⟩; have HG4 : Hid (GrowA pb w w4) := (by first | exact HG3.out.below hb | exact (HG3.out.alloc _).below hb | exact ((HG3.out.alloc _).alloc _).below hb); have HP4 : Hid (PaS w4 pb b c T (enterM T st beg)) := (by first | exact HP3.out.below hb | exact (HP3.out.allocI _).below hb | exact ((HP3.out.allocI _).allocI _).below hb); have HR4 : Hid (PhB w4 r #[.int .i64 0, .int .i64 0, .int .i64 0, .string ⟨#[]⟩, .string ⟨#[]⟩, .int .i64 0, .int .i64 0, .int .i64 0, .string ⟨#[]⟩, .slice none 0 0, .slice none 0 0]) := (by first | exact HR3.out.below hb | exact (HR3.out.allocI _).below hb | exact ((HR3.out.allocI _).allocI _).below hb); have HL4 : Hid (Leave w4 pb q) := (by first | exact HL3.out.below hb | exact (HL3.out.allocI _).below hb | exact ((HL3.out.allocI _).allocI _).below hb); clear hb HP3 HG3 HR3 HL3)
      | (go_at_call 50; (first | refine (see_lit HP4.out 0 (by omega) hT hat0 hu).mono ?_ | refine (see_lit (HP4.out.allocI _) 0 (by omega) hT hat0 hu).mono ?_ | refine (see_lit ((HP4.out.allocI _).allocI _) 0 (by omega) hT hat0 hu).mono ?_); rintro e w5 ⟨rfl, hb⟩; have HG5 : Hid (GrowA pb w w5) := (by first | exact HG4.out.below hb | exact (HG4.out.alloc _).below hb | exact ((HG4.out.alloc _).alloc _).below hb); have HP5 : Hid (PaS w5 pb b c T (enterM T st beg)) := (by first | exact HP4.out.below hb | exact (HP4.out.allocI _).below hb | exact ((HP4.out.allocI _).allocI _).below hb); have HR5 : Hid (PhB w5 r #[.int .i64 0, .int .i64 0, .int .i64 0, .string ⟨#[]⟩, .string ⟨#[]⟩, .int .i64 0, .int .i64 0, .int .i64 0, .string ⟨#[]⟩, .slice none 0 0, .slice none 0 0]) := (by first | exact HR4.out.below hb | exact (HR4.out.allocI _).below hb | exact ((HR4.out.allocI _).allocI _).below hb); have HL5 : Hid (Leave w5 pb q) := (by first | exact HL4.out.below hb | exact (HL4.out.allocI _).below hb | exact ((HL4.out.allocI _).allocI _).below hb); clear hb HP4 HG4 HR4 HL4))
    obtain ⟨w6, hw6⟩ : ∃ W, W = w5.alloc (.cells #[.int .i64 5, .string ⟨#[41]⟩, .int .i64 0] 41) := ⟨_, rfl⟩
    obtain ⟨x, hx⟩ : ∃ x, x = w5.heap.size := ⟨_, rfl⟩
    have HG6 : Hid (GrowA pb w w6) := by rw [hw6]; exact HG5.out.alloc _
    have HP6 : Hid (PaS w6 pb b c T (enterM T st beg)) := by rw [hw6]; exact HP5.out.allocI _
    have HR6 : Hid (PhB w6 r #[.int .i64 0, .int .i64 0, .int .i64 0, .string ⟨#[]⟩, .string ⟨#[]⟩, .int .i64 0, .int .i64 0, .int .i64 0, .string ⟨#[]⟩, .slice none 0 0, .slice none 0 0]) := by rw [hw6]; exact HR5.out.allocI _
    have HL6 : Hid (Leave w6 pb q) := by rw [hw6]; exact HL5.out.allocI _
    have HX6 : Hid (TkB w6 x #[.int .i64 5, .string ⟨#[41]⟩, .int .i64 0]) := by rw [hw6, hx]; exact TkB.new w5 _
    obtain ⟨c0', c1', c2'⟩ := HX6.out.cells
    rw [← hw6, ← hx]
    clear hw6 hx HG5 HP5 HR5 HL5
    go_quiet (fail)
    obtain ⟨w7, hw7⟩ : ∃ W, W = w6.drewN nq := ⟨_, rfl⟩
    have HG7 : Hid (GrowA pb w w7) := by rw [hw7]; exact HG6.out.drewK nq
    have HP7 : Hid (PaS w7 pb b c T (enterM T st beg)) := by rw [hw7]; exact HP6.out.drewK nq
    have HR7 : Hid (PhB w7 r #[.int .i64 0, .int .i64 0, .int .i64 0, .string ⟨#[]⟩, .string ⟨#[]⟩, .int .i64 0, .int .i64 0, .int .i64 0, .string ⟨#[]⟩, .slice none 0 0, .slice none 0 0]) := by rw [hw7]; exact HR6.out.drewK nq
    have HL7 : Hid (Leave w7 pb q) := by rw [hw7]; exact HL6.out.drewK nq
    have HX7 : Hid (TkB w7 x #[.int .i64 5, .string ⟨#[41]⟩, .int .i64 0]) := by rw [hw7]; exact HX6.out.drewK nq
    obtain ⟨c0, c1, c2⟩ := HX7.out.cells
    rw [← hw7]
    clear hw7 HG6 HP6 HR6 HL6 HX6 c0' c1' c2'
    go_upto_region 6 with fail
    go_quiet (fail)
    obtain ⟨w8, hw8⟩ : ∃ W, W = w7.drewN nq := ⟨_, rfl⟩
    have HG8 : Hid (GrowA pb w w8) := by rw [hw8]; exact HG7.out.drewK nq
    have HP8 : Hid (PaS w8 pb b c T (enterM T st beg)) := by rw [hw8]; exact HP7.out.drewK nq
    have HR8 : Hid (PhB w8 r #[.int .i64 0, .int .i64 0, .int .i64 0, .string ⟨#[]⟩, .string ⟨#[]⟩, .int .i64 0, .int .i64 0, .int .i64 0, .string ⟨#[]⟩, .slice none 0 0, .slice none 0 0]) := by rw [hw8]; exact HR7.out.drewK nq
    have HL8 : Hid (Leave w8 pb q) := by rw [hw8]; exact HL7.out.drewK nq
    have HX8 : Hid (TkB w8 x #[.int .i64 5, .string ⟨#[41]⟩, .int .i64 0]) := by rw [hw8]; exact HX7.out.drewK nq
    clear c0 c1 c2
    obtain ⟨c0, c1, c2⟩ := HX8.out.cells
    rw [← hw8]
    clear hw8 HG7 HP7 HR7 HL7 HX7
    go_upto_region 8 with fail
    go_quiet (fail)
    obtain ⟨w9, hw9⟩ : ∃ W, W = w8.drewN nq := ⟨_, rfl⟩
    have HG9 : Hid (GrowA pb w w9) := by rw [hw9]; exact HG8.out.drewK nq
    have HP9 : Hid (PaS w9 pb b c T (enterM T st beg)) := by rw [hw9]; exact HP8.out.drewK nq
    have HR9 : Hid (PhB w9 r #[.int .i64 0, .int .i64 0, .int .i64 0, .string ⟨#[]⟩, .string ⟨#[]⟩, .int .i64 0, .int .i64 0, .int .i64 0, .string ⟨#[]⟩, .slice none 0 0, .slice none 0 0]) := by rw [hw9]; exact HR8.out.drewK nq
    have HL9 : Hid (Leave w9 pb q) := by rw [hw9]; exact HL8.out.drewK nq
    have HX9 : Hid (TkB w9 x #[.int .i64 5, .string ⟨#[41]⟩, .int .i64 0]) := by rw [hw9]; exact HX8.out.drewK nq
    clear c0 c1 c2
    obtain ⟨c0, c1, c2⟩ := HX9.out.cells
    rw [← hw9]
    clear hw9 HG8 HP8 HR8 HL8 HX8
    have HSS : Hid (∀ W, Below w9.heap.size w9 W → W.cell? ⟨x, 0, none⟩ = some (.int .i64 5) ∧ W.cell? ⟨x, 1, none⟩ = some (.string ⟨#[41]⟩) ∧ W.cell? ⟨x, 2, none⟩ = some (.int .i64 0)) := fun W hb => (HX9.out.below hb).cells
    have CW : Hid (∀ W, Below w9.heap.size w9 W → Calls Tryz.prog 63 #[.string ⟨#[105, 102]⟩] W fun e w' => e = .returned (.agg #[.int .i64 1, .string ⟨#[105, 102]⟩, .int .i64 0]) ∧ Below w9.heap.size w9 w') := fun W hW => (word_is _ W).mono fun e w' ⟨k1, k2⟩ => ⟨k1, hW.trans (k2.mono hW.size)⟩
    go_upto_region 10 with fail
    rw [← opIfA_eq, ← opIfB_eq]
    have hopA := opIfA_eq
    have hopB := opIfB_eq
    go_region_held3 (fun W => W.cell? ⟨x, 0, none⟩ = some (.int .i64 5) ∧ W.cell? ⟨x, 1, none⟩ = some (.string ⟨#[41]⟩) ∧ W.cell? ⟨x, 2, none⟩ = some (.int .i64 0))
      ((refine HSS.out _ ?_; repeat (first | exact Hid.out (by assumption) | exact Below.refl _ _ | refine Below.drew ?_)))
      (first
        | (go_at_call 63; refine (CW.out _ ?_).mono ?_; (focus (repeat (first | exact Hid.out (by assumption) | exact Below.refl _ _ | refine Below.drew ?_))); rintro e w10 ⟨rfl, hb⟩; have HB10 : Hid (Below w9.heap.size w9 w10) := hb; clear hb))
    have HG10 : Hid (GrowA pb w w10) := HG9.out.below HB10.out
    have HP10 : Hid (PaS w10 pb b c T (enterM T st beg)) := HP9.out.below HB10.out
    have HR10 : Hid (PhB w10 r #[.int .i64 0, .int .i64 0, .int .i64 0, .string ⟨#[]⟩, .string ⟨#[]⟩, .int .i64 0, .int .i64 0, .int .i64 0, .string ⟨#[]⟩, .slice none 0 0, .slice none 0 0]) := HR9.out.below HB10.out
    have HL10 : Hid (Leave w10 pb q) := HL9.out.below HB10.out
    clear hopA hopB c0 c1 c2 HSS CW HG9 HP9 HR9 HL9 HX9 HB10
    go_wp2_with (first
      | (go_at_call 67; (first | refine (HBI.out HP10.out HG10.out).mono ?_ | refine (HBI.out (HP10.out.allocI _) (HG10.out.alloc _)).mono ?_ | refine (HBI.out ((HP10.out.allocI _).allocI _) ((HG10.out.alloc _).alloc _)).mono ?_); rintro e w11 ⟨v, hv, rfl, hp, hg⟩; obtain ⟨k0, k1, k2, k5, k6, k7, s3, s4, s8, a9, a10, l9, c9, l10, c10, rfl⟩ := hv; have HG11 : Hid (GrowA pb w w11) := (by first | exact HG10.out.trans hg | exact (HG10.out.alloc _).trans hg | exact ((HG10.out.alloc _).alloc _).trans hg); have HP11 : Hid (PaS w11 pb b c T st1) := hp; have HR11 : Hid (PhB w11 r #[.int .i64 0, .int .i64 0, .int .i64 0, .string ⟨#[]⟩, .string ⟨#[]⟩, .int .i64 0, .int .i64 0, .int .i64 0, .string ⟨#[]⟩, .slice none 0 0, .slice none 0 0]) := (by first | exact HR10.out.grow hg hrp | exact (HR10.out.allocI _).grow hg hrp | exact ((HR10.out.allocI _).allocI _).grow hg hrp); have HL11 : Hid (Leave w11 pb q) := (by first | exact HL10.out.grow hg | exact (HL10.out.allocI _).grow hg | exact ((HL10.out.allocI _).allocI _).grow hg); obtain ⟨⟨y0, y1, y2, y3, y4, y5, y6, y7, y8, y9, y10⟩, z0, z1, z2, z3, z4, z5, z6, z7, z8, z9, z10⟩ := HR11.out.cells; clear hp hg HP10 HG10 HR10 HL10))
    obtain ⟨Wd, hWd⟩ : ∃ W, W = (((((((((((w11.setCell ⟨r, 0, none⟩ (.int .i64 k0)).setCell ⟨r, 1, none⟩ (.int .i64 k1)).setCell ⟨r, 2, none⟩ (.int .i64 k2)).setCell ⟨r, 3, none⟩ (.string s3)).setCell ⟨r, 4, none⟩ (.string s4)).setCell ⟨r, 5, none⟩ (.int .i64 k5)).setCell ⟨r, 6, none⟩ (.int .i64 k6)).setCell ⟨r, 7, none⟩ (.int .i64 k7)).setCell ⟨r, 8, none⟩ (.string s8)).setCell ⟨r, 9, none⟩ (.slice a9 l9 c9)).setCell ⟨r, 10, none⟩ (.slice a10 l10 c10)) := ⟨_, rfl⟩
    have HD : Hid (PaS Wd pb b c T st1) := by
      refine HidOf ?_
      rw [hWd]
      (repeat (first | with_reducible refine PaS.setR ?_ hrp hrb _ _ | with_reducible refine PaS.allocI ?_ _ | exact HP11.out))
    have HE : Hid (GrowA pb w Wd) := by
      refine HidOf ?_
      rw [hWd]
      (repeat (first | with_reducible refine GrowA.setR ?_ HRW.out _ _ | with_reducible refine GrowA.alloc ?_ _ | exact HG11.out))
    have HQ : Hid (Leave Wd pb q) := by
      refine HidOf ?_
      rw [hWd]
      (repeat (first | with_reducible refine Leave.setR ?_ hrq _ _ | exact HL11.out))
    have HZ : Hid (PhB Wd r #[.int .i64 k0, .int .i64 k1, .int .i64 k2, .string s3, .string s4, .int .i64 k5, .int .i64 k6, .int .i64 k7, .string s8, .slice a9 l9 c9, .slice a10 l10 c10]) := by rw [hWd]; exact PhB.put HR11.out
    rw [← hWd]
    clear hWd
    refine leaves_cons (f := 49) (args := #[.pointer (some ⟨q, 0, none⟩)]) (by simp) (by simp [go_sem]) ?_
    refine (leave_is HD.out HQ.out hop .returning).mono ?_
    rintro e u' w99 ⟨rfl, rfl, hp, hg⟩
    obtain ⟨⟨u0, u1, u2, u3, u4, u5, u6, u7, u8, u9, u10⟩, _⟩ := (HZ.out.grow hg hrp).cells
    exact ⟨.agg #[.int .i64 k0, .int .i64 k1, .int .i64 k2, .string s3, .string s4, .int .i64 k5, .int .i64 k6, .int .i64 k7, .string s8, .slice a9 l9 c9, .slice a10 l10 c10], by simp [results, Tryz.results53, go_sem, u0, u1, u2, u3, u4, u5, u6, u7, u8, u9, u10], ⟨_, PhV.mk, rfl, hp, HE.out.trans hg⟩⟩
  · skip
    go_enter_defers Tryz.func53, Tryz.ntmps53
    go_upto_region 1 with fail
    obtain ⟨W1, hW1⟩ : ∃ W, W = w.alloc (.cells #[.int .i64 0, .int .i64 0, .int .i64 0, .string ⟨#[]⟩, .string ⟨#[]⟩, .int .i64 0, .int .i64 0, .int .i64 0, .string ⟨#[]⟩, .slice none 0 0, .slice none 0 0] 35) := ⟨_, rfl⟩
    have HG1 : Hid (GrowA pb w W1) := by rw [hW1]; exact (GrowA.refl _ _).alloc _
    have HP1 : Hid (PaS W1 pb b c T st) := by rw [hW1]; exact h.allocI _
    have HR1 : Hid (PhB W1 w.heap.size #[.int .i64 0, .int .i64 0, .int .i64 0, .string ⟨#[]⟩, .string ⟨#[]⟩, .int .i64 0, .int .i64 0, .int .i64 0, .string ⟨#[]⟩, .slice none 0 0, .slice none 0 0]) := by rw [hW1]; exact PhB.new w _
    rw [← hW1]
    obtain ⟨r, hr⟩ : ∃ r, r = w.heap.size := ⟨_, rfl⟩
    have HRW : Hid (w.heap.size ≤ r) := Nat.le_of_eq hr.symm
    have hrp : r ≠ pb := by omega
    have hrb : r ≠ b := by omega
    rw [← hr] at HR1 ⊢
    clear hW1 hr h hpl hbl
    go_upto_region 4 with (first
      | (go_at_call 34; (first | refine (HSB.out HP1.out).mono ?_ | refine (HSB.out (HP1.out.allocI _) ).mono ?_ | refine (HSB.out ((HP1.out.allocI _).allocI _) ).mono ?_); rintro e w2 ⟨rfl, hb⟩; have HG2 : Hid (GrowA pb w w2) := (by first | exact HG1.out.below hb | exact (HG1.out.alloc _).below hb | exact ((HG1.out.alloc _).alloc _).below hb); have HP2 : Hid (PaS w2 pb b c T st) := (by first | exact HP1.out.below hb | exact (HP1.out.allocI _).below hb | exact ((HP1.out.allocI _).allocI _).below hb); have HR2 : Hid (PhB w2 r #[.int .i64 0, .int .i64 0, .int .i64 0, .string ⟨#[]⟩, .string ⟨#[]⟩, .int .i64 0, .int .i64 0, .int .i64 0, .string ⟨#[]⟩, .slice none 0 0, .slice none 0 0]) := (by first | exact HR1.out.below hb | exact (HR1.out.allocI _).below hb | exact ((HR1.out.allocI _).allocI _).below hb); clear hb HP1 HG1 HR1)
      | (go_at_call 33; (first | refine (enter_is HP2.out _ ho).mono ?_ | refine (enter_is (HP2.out.allocI _) _ ho).mono ?_); rintro e w3 ⟨q, rfl, hl, hp, hg, hq⟩; have HG3 : Hid (GrowA pb w w3) := (by first | exact HG2.out.trans hg | exact (HG2.out.alloc _).trans hg); have HP3 : Hid (PaS w3 pb b c T (enterM T st beg)) := hp; have HR3 : Hid (PhB w3 r #[.int .i64 0, .int .i64 0, .int .i64 0, .string ⟨#[]⟩, .string ⟨#[]⟩, .int .i64 0, .int .i64 0, .int .i64 0, .string ⟨#[]⟩, .slice none 0 0, .slice none 0 0]) := (by first | exact HR2.out.grow hg hrp | exact (HR2.out.allocI _).grow hg hrp); have HL3 : Hid (Leave w3 pb q) := hl; have hrq : r ≠ q := (by have k1 := HR2.out.lt; first | omega | (simp at hq; omega)); clear hl hp hg hq HP2 HG2 HR2)
      | (go_at_call 50; (first | refine (see_lit HP3.out 1 (by omega) hT hat0 HV.out).mono ?_ | refine (see_lit (HP3.out.allocI _) 1 (by omega) hT hat0 HV.out).mono ?_ | refine (see_lit ((HP3.out.allocI _).allocI _) 1 (by omega) hT hat0 HV.out).mono ?_); rintro e w4 ⟨rfl, hb⟩; have HG4 : Hid (GrowA pb w w4) := (by first | exact HG3.out.below hb | exact (HG3.out.alloc _).below hb | exact ((HG3.out.alloc _).alloc _).below hb); have HP4 : Hid (PaS w4 pb b c T (enterM T st beg)) := (by first | exact HP3.out.below hb | exact (HP3.out.allocI _).below hb | exact ((HP3.out.allocI _).allocI _).below hb); have HR4 : Hid (PhB w4 r #[.int .i64 0, .int .i64 0, .int .i64 0, .string ⟨#[]⟩, .string ⟨#[]⟩, .int .i64 0, .int .i64 0, .int .i64 0, .string ⟨#[]⟩, .slice none 0 0, .slice none 0 0]) := (by first | exact HR3.out.below hb | exact (HR3.out.allocI _).below hb | exact ((HR3.out.allocI _).allocI _).below hb); have HL4 : Hid (Leave w4 pb q) := (by first | exact HL3.out.below hb | exact (HL3.out.allocI _).below hb | exact ((HL3.out.allocI _).allocI _).below hb); clear hb HP3 HG3 HR3 HL3)
      | (go_at_call 50; (first | refine (see_lit HP4.out 0 (by omega) hT hat0 hu).mono ?_ | refine (see_lit (HP4.out.allocI _) 0 (by omega) hT hat0 hu).mono ?_ | refine (see_lit ((HP4.out.allocI _).allocI _) 0 (by omega) hT hat0 hu).mono ?_); rintro e w5 ⟨rfl, hb⟩; have HG5 : Hid (GrowA pb w w5) := (by first | exact HG4.out.below hb | exact (HG4.out.alloc _).below hb | exact ((HG4.out.alloc _).alloc _).below hb); have HP5 : Hid (PaS w5 pb b c T (enterM T st beg)) := (by first | exact HP4.out.below hb | exact (HP4.out.allocI _).below hb | exact ((HP4.out.allocI _).allocI _).below hb); have HR5 : Hid (PhB w5 r #[.int .i64 0, .int .i64 0, .int .i64 0, .string ⟨#[]⟩, .string ⟨#[]⟩, .int .i64 0, .int .i64 0, .int .i64 0, .string ⟨#[]⟩, .slice none 0 0, .slice none 0 0]) := (by first | exact HR4.out.below hb | exact (HR4.out.allocI _).below hb | exact ((HR4.out.allocI _).allocI _).below hb); have HL5 : Hid (Leave w5 pb q) := (by first | exact HL4.out.below hb | exact (HL4.out.allocI _).below hb | exact ((HL4.out.allocI _).allocI _).below hb); clear hb HP4 HG4 HR4 HL4))
    obtain ⟨w6, hw6⟩ : ∃ W, W = w5.alloc (.cells #[.int .i64 2, .string ⟨#[]⟩, .int .i64 1] 41) := ⟨_, rfl⟩
    obtain ⟨x, hx⟩ : ∃ x, x = w5.heap.size := ⟨_, rfl⟩
    have HG6 : Hid (GrowA pb w w6) := by rw [hw6]; exact HG5.out.alloc _
    have HP6 : Hid (PaS w6 pb b c T (enterM T st beg)) := by rw [hw6]; exact HP5.out.allocI _
    have HR6 : Hid (PhB w6 r #[.int .i64 0, .int .i64 0, .int .i64 0, .string ⟨#[]⟩, .string ⟨#[]⟩, .int .i64 0, .int .i64 0, .int .i64 0, .string ⟨#[]⟩, .slice none 0 0, .slice none 0 0]) := by rw [hw6]; exact HR5.out.allocI _
    have HL6 : Hid (Leave w6 pb q) := by rw [hw6]; exact HL5.out.allocI _
    have HX6 : Hid (TkB w6 x #[.int .i64 2, .string ⟨#[]⟩, .int .i64 1]) := by rw [hw6, hx]; exact TkB.new w5 _
    obtain ⟨c0', c1', c2'⟩ := HX6.out.cells
    rw [← hw6, ← hx]
    clear hw6 hx HG5 HP5 HR5 HL5
    go_quiet (fail)
    obtain ⟨w7, hw7⟩ : ∃ W, W = w6.drewN nq := ⟨_, rfl⟩
    have HG7 : Hid (GrowA pb w w7) := by rw [hw7]; exact HG6.out.drewK nq
    have HP7 : Hid (PaS w7 pb b c T (enterM T st beg)) := by rw [hw7]; exact HP6.out.drewK nq
    have HR7 : Hid (PhB w7 r #[.int .i64 0, .int .i64 0, .int .i64 0, .string ⟨#[]⟩, .string ⟨#[]⟩, .int .i64 0, .int .i64 0, .int .i64 0, .string ⟨#[]⟩, .slice none 0 0, .slice none 0 0]) := by rw [hw7]; exact HR6.out.drewK nq
    have HL7 : Hid (Leave w7 pb q) := by rw [hw7]; exact HL6.out.drewK nq
    have HX7 : Hid (TkB w7 x #[.int .i64 2, .string ⟨#[]⟩, .int .i64 1]) := by rw [hw7]; exact HX6.out.drewK nq
    obtain ⟨c0, c1, c2⟩ := HX7.out.cells
    rw [← hw7]
    clear hw7 HG6 HP6 HR6 HL6 HX6 c0' c1' c2'
    go_upto_region 6 with fail
    go_quiet (fail)
    obtain ⟨w8, hw8⟩ : ∃ W, W = w7.drewN nq := ⟨_, rfl⟩
    have HG8 : Hid (GrowA pb w w8) := by rw [hw8]; exact HG7.out.drewK nq
    have HP8 : Hid (PaS w8 pb b c T (enterM T st beg)) := by rw [hw8]; exact HP7.out.drewK nq
    have HR8 : Hid (PhB w8 r #[.int .i64 0, .int .i64 0, .int .i64 0, .string ⟨#[]⟩, .string ⟨#[]⟩, .int .i64 0, .int .i64 0, .int .i64 0, .string ⟨#[]⟩, .slice none 0 0, .slice none 0 0]) := by rw [hw8]; exact HR7.out.drewK nq
    have HL8 : Hid (Leave w8 pb q) := by rw [hw8]; exact HL7.out.drewK nq
    have HX8 : Hid (TkB w8 x #[.int .i64 2, .string ⟨#[]⟩, .int .i64 1]) := by rw [hw8]; exact HX7.out.drewK nq
    clear c0 c1 c2
    obtain ⟨c0, c1, c2⟩ := HX8.out.cells
    rw [← hw8]
    clear hw8 HG7 HP7 HR7 HL7 HX7
    go_upto_region 8 with fail
    go_quiet (fail)
    obtain ⟨w9, hw9⟩ : ∃ W, W = w8.drewN nq := ⟨_, rfl⟩
    have HG9 : Hid (GrowA pb w w9) := by rw [hw9]; exact HG8.out.drewK nq
    have HP9 : Hid (PaS w9 pb b c T (enterM T st beg)) := by rw [hw9]; exact HP8.out.drewK nq
    have HR9 : Hid (PhB w9 r #[.int .i64 0, .int .i64 0, .int .i64 0, .string ⟨#[]⟩, .string ⟨#[]⟩, .int .i64 0, .int .i64 0, .int .i64 0, .string ⟨#[]⟩, .slice none 0 0, .slice none 0 0]) := by rw [hw9]; exact HR8.out.drewK nq
    have HL9 : Hid (Leave w9 pb q) := by rw [hw9]; exact HL8.out.drewK nq
    have HX9 : Hid (TkB w9 x #[.int .i64 2, .string ⟨#[]⟩, .int .i64 1]) := by rw [hw9]; exact HX8.out.drewK nq
    clear c0 c1 c2
    obtain ⟨c0, c1, c2⟩ := HX9.out.cells
    rw [← hw9]
    clear hw9 HG8 HP8 HR8 HL8 HX8
    have HSS : Hid (∀ W, Below w9.heap.size w9 W → W.cell? ⟨x, 0, none⟩ = some (.int .i64 2) ∧ W.cell? ⟨x, 1, none⟩ = some (.string ⟨#[]⟩) ∧ W.cell? ⟨x, 2, none⟩ = some (.int .i64 1)) := fun W hb => (HX9.out.below hb).cells
    have CW : Hid (∀ W, Below w9.heap.size w9 W → Calls Tryz.prog 63 #[.string ⟨#[105, 102]⟩] W fun e w' => e = .returned (.agg #[.int .i64 1, .string ⟨#[105, 102]⟩, .int .i64 0]) ∧ Below w9.heap.size w9 w') := fun W hW => (word_is _ W).mono fun e w' ⟨k1, k2⟩ => ⟨k1, hW.trans (k2.mono hW.size)⟩
    go_upto_region 10 with fail
    rw [← opIfA_eq, ← opIfB_eq]
    have hopA := opIfA_eq
    have hopB := opIfB_eq
    go_region_held3 (fun W => W.cell? ⟨x, 0, none⟩ = some (.int .i64 2) ∧ W.cell? ⟨x, 1, none⟩ = some (.string ⟨#[]⟩) ∧ W.cell? ⟨x, 2, none⟩ = some (.int .i64 1))
      ((refine HSS.out _ ?_; repeat (first | exact Hid.out (by assumption) | exact Below.refl _ _ | refine Below.drew ?_)))
      (first
        | (go_at_call 63; refine (CW.out _ ?_).mono ?_; (focus (repeat (first | exact Hid.out (by assumption) | exact Below.refl _ _ | refine Below.drew ?_))); rintro e w10 ⟨rfl, hb⟩; have HB10 : Hid (Below w9.heap.size w9 w10) := hb; clear hb))
    have HG10 : Hid (GrowA pb w w10) := HG9.out.below HB10.out
    have HP10 : Hid (PaS w10 pb b c T (enterM T st beg)) := HP9.out.below HB10.out
    have HR10 : Hid (PhB w10 r #[.int .i64 0, .int .i64 0, .int .i64 0, .string ⟨#[]⟩, .string ⟨#[]⟩, .int .i64 0, .int .i64 0, .int .i64 0, .string ⟨#[]⟩, .slice none 0 0, .slice none 0 0]) := HR9.out.below HB10.out
    have HL10 : Hid (Leave w10 pb q) := HL9.out.below HB10.out
    clear hopA hopB c0 c1 c2 HSS CW HG9 HP9 HR9 HL9 HX9 HB10
    go_wp2_with (first
      | (go_at_call 67; (first | refine (HBI.out HP10.out HG10.out).mono ?_ | refine (HBI.out (HP10.out.allocI _) (HG10.out.alloc _)).mono ?_ | refine (HBI.out ((HP10.out.allocI _).allocI _) ((HG10.out.alloc _).alloc _)).mono ?_); rintro e w11 ⟨v, hv, rfl, hp, hg⟩; obtain ⟨k0, k1, k2, k5, k6, k7, s3, s4, s8, a9, a10, l9, c9, l10, c10, rfl⟩ := hv; have HG11 : Hid (GrowA pb w w11) := (by first | exact HG10.out.trans hg | exact (HG10.out.alloc _).trans hg | exact ((HG10.out.alloc _).alloc _).trans hg); have HP11 : Hid (PaS w11 pb b c T st1) := hp; have HR11 : Hid (PhB w11 r #[.int .i64 0, .int .i64 0, .int .i64 0, .string ⟨#[]⟩, .string ⟨#[]⟩, .int .i64 0, .int .i64 0, .int .i64 0, .string ⟨#[]⟩, .slice none 0 0, .slice none 0 0]) := (by first | exact HR10.out.grow hg hrp | exact (HR10.out.allocI _).grow hg hrp | exact ((HR10.out.allocI _).allocI _).grow hg hrp); have HL11 : Hid (Leave w11 pb q) := (by first | exact HL10.out.grow hg | exact (HL10.out.allocI _).grow hg | exact ((HL10.out.allocI _).allocI _).grow hg); obtain ⟨⟨y0, y1, y2, y3, y4, y5, y6, y7, y8, y9, y10⟩, z0, z1, z2, z3, z4, z5, z6, z7, z8, z9, z10⟩ := HR11.out.cells; clear hp hg HP10 HG10 HR10 HL10))
    obtain ⟨Wd, hWd⟩ : ∃ W, W = (((((((((((w11.setCell ⟨r, 0, none⟩ (.int .i64 k0)).setCell ⟨r, 1, none⟩ (.int .i64 k1)).setCell ⟨r, 2, none⟩ (.int .i64 k2)).setCell ⟨r, 3, none⟩ (.string s3)).setCell ⟨r, 4, none⟩ (.string s4)).setCell ⟨r, 5, none⟩ (.int .i64 k5)).setCell ⟨r, 6, none⟩ (.int .i64 k6)).setCell ⟨r, 7, none⟩ (.int .i64 k7)).setCell ⟨r, 8, none⟩ (.string s8)).setCell ⟨r, 9, none⟩ (.slice a9 l9 c9)).setCell ⟨r, 10, none⟩ (.slice a10 l10 c10)) := ⟨_, rfl⟩
    have HD : Hid (PaS Wd pb b c T st1) := by
      refine HidOf ?_
      rw [hWd]
      (repeat (first | with_reducible refine PaS.setR ?_ hrp hrb _ _ | with_reducible refine PaS.allocI ?_ _ | exact HP11.out))
    have HE : Hid (GrowA pb w Wd) := by
      refine HidOf ?_
      rw [hWd]
      (repeat (first | with_reducible refine GrowA.setR ?_ HRW.out _ _ | with_reducible refine GrowA.alloc ?_ _ | exact HG11.out))
    have HQ : Hid (Leave Wd pb q) := by
      refine HidOf ?_
      rw [hWd]
      (repeat (first | with_reducible refine Leave.setR ?_ hrq _ _ | exact HL11.out))
    have HZ : Hid (PhB Wd r #[.int .i64 k0, .int .i64 k1, .int .i64 k2, .string s3, .string s4, .int .i64 k5, .int .i64 k6, .int .i64 k7, .string s8, .slice a9 l9 c9, .slice a10 l10 c10]) := by rw [hWd]; exact PhB.put HR11.out
    rw [← hWd]
    clear hWd
    refine leaves_cons (f := 49) (args := #[.pointer (some ⟨q, 0, none⟩)]) (by simp) (by simp [go_sem]) ?_
    refine (leave_is HD.out HQ.out hop .returning).mono ?_
    rintro e u' w99 ⟨rfl, rfl, hp, hg⟩
    obtain ⟨⟨u0, u1, u2, u3, u4, u5, u6, u7, u8, u9, u10⟩, _⟩ := (HZ.out.grow hg hrp).cells
    exact ⟨.agg #[.int .i64 k0, .int .i64 k1, .int .i64 k2, .string s3, .string s4, .int .i64 k5, .int .i64 k6, .int .i64 k7, .string s8, .slice a9 l9 c9, .slice a10 l10 c10], by simp [results, Tryz.results53, go_sem, u0, u1, u2, u3, u4, u5, u6, u7, u8, u9, u10], ⟨_, PhV.mk, rfl, hp, HE.out.trans hg⟩⟩
end Go.Proofs.YteapocgpenokfaaGreatDoor
