/-
  THE PARSER's noStep, listUpTo, bareStep, where only four tokens are seen.
-/
import Derived.Test.YteapocgpenokfaaGreatDoorPaPred
set_option linter.unusedVariables false
namespace Go.Proofs.YteapocgpenokfaaGreatDoor
set_option maxRecDepth 100000
open Go.RowKit

theorem missM_wrong {T : List Tok} {st : Pst} (h : ¬ st.wrong = 0) : missM T st = st := by
  unfold missM failM
  rw [if_neg h]
  split <;> rfl
theorem cls_no {u : Tok} (h : Cls u) : (u.kind == 1) = false ∧ (u.kind == 4) = false ∧ eqT u ⟨5, ⟨#[64]⟩, 0⟩ = false ∧ eqT u ⟨5, ⟨#[46, 46]⟩, 0⟩ = false ∧ eqT u ⟨5, ⟨#[47]⟩, 0⟩ = false ∧ eqT u ⟨5, ⟨#[47, 47]⟩, 0⟩ = false ∧ eqT u ⟨5, ⟨#[91]⟩, 0⟩ = false ∧ eqT u ⟨5, ⟨#[45]⟩, 0⟩ = false ∧ eqT u ⟨5, ⟨#[44]⟩, 0⟩ = false ∧ eqT u ⟨5, ⟨#[46]⟩, 0⟩ = false := by
  rcases h with rfl | rfl | rfl | rfl <;> decide
/-- a function that answers a phrase brings the parser from one state to another, where the table of operators lies -/
def RunO (pb b c : Nat) (T : List Tok) (f : Nat) (args : Array Value) (st st' : Pst) : Prop := ∀ {w : World}, PaS w pb b c T st → OpTab w → Calls Tryz.prog f (#[.pointer (some ⟨pb, 0, none⟩)] ++ args) w fun e w' => ∃ v, PhV v ∧ e = .returned v ∧ PaS w' pb b c T st' ∧ GrowA pb w w'
/-- a token in a block of its own -/
def TkB (w : World) (x : Nat) (v : Array Value) : Prop := w.heap[x]? = some (.cells v 41)
theorem TkB.lt {w : World} {r : Nat} {v : Array Value} (h : TkB w r v) : r < w.heap.size := (Array.getElem?_eq_some_iff.1 h).1
theorem TkB.new (w : World) (v : Array Value) : TkB (w.alloc (.cells v 41)) w.heap.size v := heap_alloc_new _ _
theorem TkB.grow {w w' : World} {pb r : Nat} {v : Array Value} (h : TkB w r v) (hg : GrowA pb w w') (hr : r ≠ pb) : TkB w' r v := (hg.2.2.2.2 r h.lt hr).trans h
theorem TkB.below {w w' : World} {r : Nat} {v : Array Value} (h : TkB w r v) (hb : Below w.heap.size w w') : TkB w' r v := (hb.block r h.lt).trans h
theorem TkB.allocI {w : World} {r : Nat} {v : Array Value} (h : TkB w r v) (o : Obj) : TkB (w.alloc o) r v := h.below ((Below.refl _ _).alloc (Nat.le_refl _) o)
theorem TkB.cells {w : World} {r : Nat} {k n : Int} {s : ByteArray} (h : TkB w r #[.int .i64 k, .string s, .int .i64 n]) : w.cell? ⟨r, 0, none⟩ = some (.int .i64 k) ∧ w.cell? ⟨r, 1, none⟩ = some (.string s) ∧ w.cell? ⟨r, 2, none⟩ = some (.int .i64 n) := by
  unfold TkB at h
  refine ⟨?_, ?_, ?_⟩ <;> simp [World.cell?, h]
set_option maxHeartbeats 1600000 in
theorem noStep_one {pb b c : Nat} {T : List Tok} {st : Pst} (hT : T.length ≤ 200) (hat : st.at' ≤ 300) (hu : seeM T st 0 = oneT) : RunO pb b c T 97 #[] st { st with at' := st.at' + 1 } := by
  intro w h hot
  have hpl := h.pl
  have hbl := h.bl
  go_enter Tryz.func97, Tryz.ntmps97
  go_upto_region 1 with fail
  obtain ⟨W1, hW1⟩ : ∃ W, W = w.alloc (.cells #[.int .i64 0, .int .i64 0, .int .i64 0, .string ⟨#[]⟩, .string ⟨#[]⟩, .int .i64 0, .int .i64 0, .int .i64 0, .string ⟨#[]⟩, .slice none 0 0, .slice none 0 0] 35) := ⟨_, rfl⟩
  have HG1 : Hid (GrowA pb w W1) := by rw [hW1]; exact (GrowA.refl _ _).alloc _
  have HP1 : Hid (PaS W1 pb b c T st) := by rw [hW1]; exact h.allocI _
  have HR1 : Hid (PhB W1 w.heap.size #[.int .i64 0, .int .i64 0, .int .i64 0, .string ⟨#[]⟩, .string ⟨#[]⟩, .int .i64 0, .int .i64 0, .int .i64 0, .string ⟨#[]⟩, .slice none 0 0, .slice none 0 0]) := by rw [hW1]; exact PhB.new w _
  rw [← hW1]
  obtain ⟨r, hr⟩ : ∃ r, r = w.heap.size := ⟨_, rfl⟩
  have HRW : Hid (w.heap.size ≤ r) := Nat.le_of_eq hr.symm
  have hrp : r ≠ pb := by omega
  have hrb : r ≠ b := by omega
  rw [← hr] at HR1 ⊢
  clear hW1 hr h hpl hbl
  have hwr : IntKind.i64.wrap ((st.at' : Int) + 1) = ((st.at' + 1 : Nat) : Int) := by rw [IntWalk.i64_in _ (by omega)]; simp
  go_upto_region 2 with (first
    | (go_at_call 50; (first | refine (see_lit HP1.out 0 (by omega) hT hat hu).mono ?_ | refine (see_lit (HP1.out.allocI _) 0 (by omega) hT hat hu).mono ?_ | refine (see_lit ((HP1.out.allocI _).allocI _) 0 (by omega) hT hat hu).mono ?_); rintro e w2 ⟨rfl, hb⟩; have HG2 : Hid (GrowA pb w w2) := (by first | exact HG1.out.below hb | exact (HG1.out.alloc _).below hb | exact ((HG1.out.alloc _).alloc _).below hb); have HP2 : Hid (PaS w2 pb b c T st) := (by first | exact HP1.out.below hb | exact (HP1.out.allocI _).below hb | exact ((HP1.out.allocI _).allocI _).below hb); have HR2 : Hid (PhB w2 r #[.int .i64 0, .int .i64 0, .int .i64 0, .string ⟨#[]⟩, .string ⟨#[]⟩, .int .i64 0, .int .i64 0, .int .i64 0, .string ⟨#[]⟩, .slice none 0 0, .slice none 0 0]) := (by first | exact HR1.out.below hb | exact (HR1.out.allocI _).below hb | exact ((HR1.out.allocI _).allocI _).below hb); clear hb HP1 HG1 HR1))
  have x1 := HP2.out.a
  have f1 := HP2.out.fa
  have hl2 := HP2.out.pl
  have hr2 := HR2.out.lt
  obtain ⟨⟨y0, y1, y2, y3, y4, y5, y6, y7, y8, y9, y10⟩, z0, z1, z2, z3, z4, z5, z6, z7, z8, z9, z10⟩ := HR2.out.cells
  have HF : Hid (PaS (w2.setCell ⟨pb, 1, none⟩ (.int .i64 ((st.at' + 1 : Nat) : Int))) pb b c T { st with at' := st.at' + 1 }) := HP2.out.setA _
  have HH : Hid (GrowA pb w (w2.setCell ⟨pb, 1, none⟩ (.int .i64 ((st.at' + 1 : Nat) : Int)))) := HG2.out.set 1 _
  generalize ((st.at' + 1 : Nat) : Int) = q1 at hwr HF HH
  go_wp2
  refine bodyPost_ret (v := .agg #[.int .i64 1, .int .i64 2, .int .i64 1, .string ⟨#[]⟩, .string ⟨#[]⟩, .int .i64 0, .int .i64 0, .int .i64 0, .string ⟨#[]⟩, .slice none 0 0, .slice none 0 0]) (by simp [results, Tryz.results97, go_sem, hr2, y0, y1, y2, y3, y4, y5, y6, y7, y8, y9, y10]) rfl ⟨_, PhV.mk, rfl, ?_, ?_⟩
  · (repeat (first | with_reducible refine PaS.setR ?_ hrp hrb _ _ | with_reducible refine PaS.allocI ?_ _ | exact HF.out))
  · (repeat (first | with_reducible refine GrowA.setR ?_ HRW.out _ _ | with_reducible refine GrowA.alloc ?_ _ | exact HH.out))
set_option maxHeartbeats 1600000 in
theorem noStep_lp {pb b c : Nat} {T : List Tok} {st st2 : Pst} (hT : T.length ≤ 200) (hat : st.at' ≤ 300) (hu : seeM T st 0 = lpT) (hpo : 4 ≠ pb) (HL : RunO pb b c T 101 #[.agg #[.int .i64 5, .string ⟨#[41]⟩, .int .i64 0]] { st with at' := st.at' + 1 } st2) : RunO pb b c T 97 #[] st st2 := by
  intro w h hot
  have HOT : Hid (OpTab w) := hot
  have HLU : Hid (∀ {W : World}, PaS W pb b c T { st with at' := st.at' + 1 } → GrowA pb w W → Calls Tryz.prog 101 #[.pointer (some ⟨pb, 0, none⟩), .agg #[.int .i64 5, .string ⟨#[41]⟩, .int .i64 0]] W fun e w' => ∃ v, PhV v ∧ e = .returned v ∧ PaS w' pb b c T st2 ∧ GrowA pb W w') := fun {W} h hg => HL h (HOT.out.grow hg hpo)
  clear HL
  have hpl := h.pl
  have hbl := h.bl
  go_enter Tryz.func97, Tryz.ntmps97
  go_upto_region 1 with fail
  obtain ⟨W1, hW1⟩ : ∃ W, W = w.alloc (.cells #[.int .i64 0, .int .i64 0, .int .i64 0, .string ⟨#[]⟩, .string ⟨#[]⟩, .int .i64 0, .int .i64 0, .int .i64 0, .string ⟨#[]⟩, .slice none 0 0, .slice none 0 0] 35) := ⟨_, rfl⟩
  have HG1 : Hid (GrowA pb w W1) := by rw [hW1]; exact (GrowA.refl _ _).alloc _
  have HP1 : Hid (PaS W1 pb b c T st) := by rw [hW1]; exact h.allocI _
  have HR1 : Hid (PhB W1 w.heap.size #[.int .i64 0, .int .i64 0, .int .i64 0, .string ⟨#[]⟩, .string ⟨#[]⟩, .int .i64 0, .int .i64 0, .int .i64 0, .string ⟨#[]⟩, .slice none 0 0, .slice none 0 0]) := by rw [hW1]; exact PhB.new w _
  rw [← hW1]
  obtain ⟨r, hr⟩ : ∃ r, r = w.heap.size := ⟨_, rfl⟩
  have HRW : Hid (w.heap.size ≤ r) := Nat.le_of_eq hr.symm
  have hrp : r ≠ pb := by omega
  have hrb : r ≠ b := by omega
  rw [← hr] at HR1 ⊢
  clear hW1 hr h hpl hbl
  go_wp2_with (first
    | (go_at_call 50; (first | refine (see_lit HP1.out 0 (by omega) hT hat hu).mono ?_ | refine (see_lit (HP1.out.allocI _) 0 (by omega) hT hat hu).mono ?_ | refine (see_lit ((HP1.out.allocI _).allocI _) 0 (by omega) hT hat hu).mono ?_); rintro e w2 ⟨rfl, hb⟩; have HG2 : Hid (GrowA pb w w2) := (by first | exact HG1.out.below hb | exact (HG1.out.alloc _).below hb | exact ((HG1.out.alloc _).alloc _).below hb); have HP2 : Hid (PaS w2 pb b c T st) := (by first | exact HP1.out.below hb | exact (HP1.out.allocI _).below hb | exact ((HP1.out.allocI _).allocI _).below hb); have HR2 : Hid (PhB w2 r #[.int .i64 0, .int .i64 0, .int .i64 0, .string ⟨#[]⟩, .string ⟨#[]⟩, .int .i64 0, .int .i64 0, .int .i64 0, .string ⟨#[]⟩, .slice none 0 0, .slice none 0 0]) := (by first | exact HR1.out.below hb | exact (HR1.out.allocI _).below hb | exact ((HR1.out.allocI _).allocI _).below hb); clear hb HP1 HG1 HR1)
    | (go_at_call 51; have HNX := HP2; refine (mark_is _ _).mono ?_; rintro e w3 ⟨rfl, hb⟩; have HG3 : Hid (GrowA pb w w3) := (by first | exact HG2.out.below hb | exact (HG2.out.alloc _).below hb | exact ((HG2.out.alloc _).alloc _).below hb); have HP3 : Hid (PaS w3 pb b c T st) := (by first | exact HP2.out.below hb | exact (HP2.out.allocI _).below hb | exact ((HP2.out.allocI _).allocI _).below hb); have HR3 : Hid (PhB w3 r #[.int .i64 0, .int .i64 0, .int .i64 0, .string ⟨#[]⟩, .string ⟨#[]⟩, .int .i64 0, .int .i64 0, .int .i64 0, .string ⟨#[]⟩, .slice none 0 0, .slice none 0 0]) := (by first | exact HR2.out.below hb | exact (HR2.out.allocI _).below hb | exact ((HR2.out.allocI _).allocI _).below hb); clear hb HNX HP2 HG2 HR2)
    | (go_at_call 54; (first | refine (skip_no HP3.out hT hat _ _ _ (by rw [hu]; decide)).mono ?_ | refine (skip_no (HP3.out.allocI _) hT hat _ _ _ (by rw [hu]; decide)).mono ?_ | refine (skip_no ((HP3.out.allocI _).allocI _) hT hat _ _ _ (by rw [hu]; decide)).mono ?_); rintro e w4 ⟨rfl, hp, hg⟩; have HG4 : Hid (GrowA pb w w4) := (by first | exact HG3.out.trans hg | exact (HG3.out.alloc _).trans hg | exact ((HG3.out.alloc _).alloc _).trans hg); have HP4 : Hid (PaS w4 pb b c T st) := hp; have HR4 : Hid (PhB w4 r #[.int .i64 0, .int .i64 0, .int .i64 0, .string ⟨#[]⟩, .string ⟨#[]⟩, .int .i64 0, .int .i64 0, .int .i64 0, .string ⟨#[]⟩, .slice none 0 0, .slice none 0 0]) := (by first | exact HR3.out.grow hg hrp | exact (HR3.out.allocI _).grow hg hrp | exact ((HR3.out.allocI _).allocI _).grow hg hrp); clear hp hg HP3 HG3 HR3)
    | (go_at_call 51; have HNX := HP4; refine (mark_is _ _).mono ?_; rintro e w5 ⟨rfl, hb⟩; have HG5 : Hid (GrowA pb w w5) := (by first | exact HG4.out.below hb | exact (HG4.out.alloc _).below hb | exact ((HG4.out.alloc _).alloc _).below hb); have HP5 : Hid (PaS w5 pb b c T st) := (by first | exact HP4.out.below hb | exact (HP4.out.allocI _).below hb | exact ((HP4.out.allocI _).allocI _).below hb); have HR5 : Hid (PhB w5 r #[.int .i64 0, .int .i64 0, .int .i64 0, .string ⟨#[]⟩, .string ⟨#[]⟩, .int .i64 0, .int .i64 0, .int .i64 0, .string ⟨#[]⟩, .slice none 0 0, .slice none 0 0]) := (by first | exact HR4.out.below hb | exact (HR4.out.allocI _).below hb | exact ((HR4.out.allocI _).allocI _).below hb); clear hb HNX HP4 HG4 HR4)
    | (go_at_call 54; (first | refine (skip_yes HP5.out hT hat _ _ _ (by rw [hu]; decide)).mono ?_ | refine (skip_yes (HP5.out.allocI _) hT hat _ _ _ (by rw [hu]; decide)).mono ?_ | refine (skip_yes ((HP5.out.allocI _).allocI _) hT hat _ _ _ (by rw [hu]; decide)).mono ?_); rintro e w6 ⟨rfl, hp, hg⟩; have HG6 : Hid (GrowA pb w w6) := (by first | exact HG5.out.trans hg | exact (HG5.out.alloc _).trans hg | exact ((HG5.out.alloc _).alloc _).trans hg); have HP6 : Hid (PaS w6 pb b c T { st with at' := st.at' + 1 }) := hp; have HR6 : Hid (PhB w6 r #[.int .i64 0, .int .i64 0, .int .i64 0, .string ⟨#[]⟩, .string ⟨#[]⟩, .int .i64 0, .int .i64 0, .int .i64 0, .string ⟨#[]⟩, .slice none 0 0, .slice none 0 0]) := (by first | exact HR5.out.grow hg hrp | exact (HR5.out.allocI _).grow hg hrp | exact ((HR5.out.allocI _).allocI _).grow hg hrp); clear hp hg HP5 HG5 HR5)
    | (go_at_call 51; have HNX := HP6; refine (mark_is _ _).mono ?_; rintro e w7 ⟨rfl, hb⟩; have HG7 : Hid (GrowA pb w w7) := (by first | exact HG6.out.below hb | exact (HG6.out.alloc _).below hb | exact ((HG6.out.alloc _).alloc _).below hb); have HP7 : Hid (PaS w7 pb b c T { st with at' := st.at' + 1 }) := (by first | exact HP6.out.below hb | exact (HP6.out.allocI _).below hb | exact ((HP6.out.allocI _).allocI _).below hb); have HR7 : Hid (PhB w7 r #[.int .i64 0, .int .i64 0, .int .i64 0, .string ⟨#[]⟩, .string ⟨#[]⟩, .int .i64 0, .int .i64 0, .int .i64 0, .string ⟨#[]⟩, .slice none 0 0, .slice none 0 0]) := (by first | exact HR6.out.below hb | exact (HR6.out.allocI _).below hb | exact ((HR6.out.allocI _).allocI _).below hb); clear hb HNX HP6 HG6 HR6)
    | (go_at_call 101; (first | refine (HLU.out HP7.out HG7.out).mono ?_ | refine (HLU.out (HP7.out.allocI _) (HG7.out.alloc _)).mono ?_ | refine (HLU.out ((HP7.out.allocI _).allocI _) ((HG7.out.alloc _).alloc _)).mono ?_); rintro e w8 ⟨v, hv, rfl, hp, hg⟩; obtain ⟨k0, k1, k2, k5, k6, k7, s3, s4, s8, a9, a10, l9, c9, l10, c10, rfl⟩ := hv; have HG8 : Hid (GrowA pb w w8) := (by first | exact HG7.out.trans hg | exact (HG7.out.alloc _).trans hg | exact ((HG7.out.alloc _).alloc _).trans hg); have HP8 : Hid (PaS w8 pb b c T st2) := hp; have HR8 : Hid (PhB w8 r #[.int .i64 0, .int .i64 0, .int .i64 0, .string ⟨#[]⟩, .string ⟨#[]⟩, .int .i64 0, .int .i64 0, .int .i64 0, .string ⟨#[]⟩, .slice none 0 0, .slice none 0 0]) := (by first | exact HR7.out.grow hg hrp | exact (HR7.out.allocI _).grow hg hrp | exact ((HR7.out.allocI _).allocI _).grow hg hrp); obtain ⟨⟨y0, y1, y2, y3, y4, y5, y6, y7, y8, y9, y10⟩, z0, z1, z2, z3, z4, z5, z6, z7, z8, z9, z10⟩ := HR8.out.cells; clear hp hg HP7 HG7 HR7))
  refine bodyPost_ret (v := .agg #[.int .i64 k0, .int .i64 k1, .int .i64 k2, .string s3, .string s4, .int .i64 k5, .int .i64 k6, .int .i64 k7, .string s8, .slice a9 l9 c9, .slice a10 l10 c10]) (by simp [results, Tryz.results97, go_sem, y0, y1, y2, y3, y4, y5, y6, y7, y8, y9, y10]) rfl ⟨_, PhV.mk, rfl, ?_, ?_⟩
  · (repeat (first | with_reducible refine PaS.setR ?_ hrp hrb _ _ | with_reducible refine PaS.allocI ?_ _ | exact HP8.out))
  · (repeat (first | with_reducible refine GrowA.setR ?_ HRW.out _ _ | with_reducible refine GrowA.alloc ?_ _ | exact HG8.out))
set_option maxHeartbeats 1600000 in
theorem noStep_none {pb b c : Nat} {T : List Tok} {st : Pst} (hT : T.length ≤ 200) (hat : st.at' ≤ 300) (hu : seeM T st 0 = tok0) : RunO pb b c T 97 #[] st (missM T st) := by
  intro w h hot
  have hpl := h.pl
  have hbl := h.bl
  go_enter Tryz.func97, Tryz.ntmps97
  go_upto_region 1 with fail
  obtain ⟨W1, hW1⟩ : ∃ W, W = w.alloc (.cells #[.int .i64 0, .int .i64 0, .int .i64 0, .string ⟨#[]⟩, .string ⟨#[]⟩, .int .i64 0, .int .i64 0, .int .i64 0, .string ⟨#[]⟩, .slice none 0 0, .slice none 0 0] 35) := ⟨_, rfl⟩
  have HG1 : Hid (GrowA pb w W1) := by rw [hW1]; exact (GrowA.refl _ _).alloc _
  have HP1 : Hid (PaS W1 pb b c T st) := by rw [hW1]; exact h.allocI _
  have HR1 : Hid (PhB W1 w.heap.size #[.int .i64 0, .int .i64 0, .int .i64 0, .string ⟨#[]⟩, .string ⟨#[]⟩, .int .i64 0, .int .i64 0, .int .i64 0, .string ⟨#[]⟩, .slice none 0 0, .slice none 0 0]) := by rw [hW1]; exact PhB.new w _
  rw [← hW1]
  obtain ⟨r, hr⟩ : ∃ r, r = w.heap.size := ⟨_, rfl⟩
  have HRW : Hid (w.heap.size ≤ r) := Nat.le_of_eq hr.symm
  have hrp : r ≠ pb := by omega
  have hrb : r ≠ b := by omega
  rw [← hr] at HR1 ⊢
  clear hW1 hr h hpl hbl
  go_wp2_with (first
    | (go_at_call 50; (first | refine (see_lit HP1.out 0 (by omega) hT hat hu).mono ?_ | refine (see_lit (HP1.out.allocI _) 0 (by omega) hT hat hu).mono ?_ | refine (see_lit ((HP1.out.allocI _).allocI _) 0 (by omega) hT hat hu).mono ?_); rintro e w2 ⟨rfl, hb⟩; have HG2 : Hid (GrowA pb w w2) := (by first | exact HG1.out.below hb | exact (HG1.out.alloc _).below hb | exact ((HG1.out.alloc _).alloc _).below hb); have HP2 : Hid (PaS w2 pb b c T st) := (by first | exact HP1.out.below hb | exact (HP1.out.allocI _).below hb | exact ((HP1.out.allocI _).allocI _).below hb); have HR2 : Hid (PhB w2 r #[.int .i64 0, .int .i64 0, .int .i64 0, .string ⟨#[]⟩, .string ⟨#[]⟩, .int .i64 0, .int .i64 0, .int .i64 0, .string ⟨#[]⟩, .slice none 0 0, .slice none 0 0]) := (by first | exact HR1.out.below hb | exact (HR1.out.allocI _).below hb | exact ((HR1.out.allocI _).allocI _).below hb); have hxp : w2.heap.size ≠ pb := (by have := HP2.out.pl; omega); clear hb HP1 HG1 HR1)
    | (go_at_call 51; have HNX := HP2; refine (mark_is _ _).mono ?_; rintro e w3 ⟨rfl, hb⟩; have HG3 : Hid (GrowA pb w w3) := (by first | exact HG2.out.below hb | exact (HG2.out.alloc _).below hb | exact ((HG2.out.alloc _).alloc _).below hb); have HP3 : Hid (PaS w3 pb b c T st) := (by first | exact HP2.out.below hb | exact (HP2.out.allocI _).below hb | exact ((HP2.out.allocI _).allocI _).below hb); have HR3 : Hid (PhB w3 r #[.int .i64 0, .int .i64 0, .int .i64 0, .string ⟨#[]⟩, .string ⟨#[]⟩, .int .i64 0, .int .i64 0, .int .i64 0, .string ⟨#[]⟩, .slice none 0 0, .slice none 0 0]) := (by first | exact HR2.out.below hb | exact (HR2.out.allocI _).below hb | exact ((HR2.out.allocI _).allocI _).below hb); have HX3 : Hid (TkB w3 w2.heap.size #[.int .i64 0, .string ⟨#[]⟩, .int .i64 0]) := (TkB.new w2 #[.int .i64 0, .string ⟨#[]⟩, .int .i64 0]).below hb; clear hb HNX HP2 HG2 HR2)
    | (go_at_call 54; (first | refine (skip_no HP3.out hT hat _ _ _ (by rw [hu]; decide)).mono ?_ | refine (skip_no (HP3.out.allocI _) hT hat _ _ _ (by rw [hu]; decide)).mono ?_ | refine (skip_no ((HP3.out.allocI _).allocI _) hT hat _ _ _ (by rw [hu]; decide)).mono ?_); rintro e w4 ⟨rfl, hp, hg⟩; have HG4 : Hid (GrowA pb w w4) := (by first | exact HG3.out.trans hg | exact (HG3.out.alloc _).trans hg | exact ((HG3.out.alloc _).alloc _).trans hg); have HP4 : Hid (PaS w4 pb b c T st) := hp; have HR4 : Hid (PhB w4 r #[.int .i64 0, .int .i64 0, .int .i64 0, .string ⟨#[]⟩, .string ⟨#[]⟩, .int .i64 0, .int .i64 0, .int .i64 0, .string ⟨#[]⟩, .slice none 0 0, .slice none 0 0]) := (by first | exact HR3.out.grow hg hrp | exact (HR3.out.allocI _).grow hg hrp | exact ((HR3.out.allocI _).allocI _).grow hg hrp); have HX4 : Hid (TkB w4 w2.heap.size #[.int .i64 0, .string ⟨#[]⟩, .int .i64 0]) := (by first | exact HX3.out.grow hg hxp | exact (HX3.out.allocI _).grow hg hxp | exact ((HX3.out.allocI _).allocI _).grow hg hxp); clear hp hg HP3 HG3 HR3 HX3)
    | (go_at_call 51; have HNX := HP4; refine (mark_is _ _).mono ?_; rintro e w5 ⟨rfl, hb⟩; have HG5 : Hid (GrowA pb w w5) := (by first | exact HG4.out.below hb | exact (HG4.out.alloc _).below hb | exact ((HG4.out.alloc _).alloc _).below hb); have HP5 : Hid (PaS w5 pb b c T st) := (by first | exact HP4.out.below hb | exact (HP4.out.allocI _).below hb | exact ((HP4.out.allocI _).allocI _).below hb); have HR5 : Hid (PhB w5 r #[.int .i64 0, .int .i64 0, .int .i64 0, .string ⟨#[]⟩, .string ⟨#[]⟩, .int .i64 0, .int .i64 0, .int .i64 0, .string ⟨#[]⟩, .slice none 0 0, .slice none 0 0]) := (by first | exact HR4.out.below hb | exact (HR4.out.allocI _).below hb | exact ((HR4.out.allocI _).allocI _).below hb); have HX5 : Hid (TkB w5 w2.heap.size #[.int .i64 0, .string ⟨#[]⟩, .int .i64 0]) := (by first | exact HX4.out.below hb | exact (HX4.out.allocI _).below hb | exact ((HX4.out.allocI _).allocI _).below hb); clear hb HNX HP4 HG4 HR4 HX4)
    | (go_at_call 54; (first | refine (skip_no HP5.out hT hat _ _ _ (by rw [hu]; decide)).mono ?_ | refine (skip_no (HP5.out.allocI _) hT hat _ _ _ (by rw [hu]; decide)).mono ?_ | refine (skip_no ((HP5.out.allocI _).allocI _) hT hat _ _ _ (by rw [hu]; decide)).mono ?_); rintro e w6 ⟨rfl, hp, hg⟩; have HG6 : Hid (GrowA pb w w6) := (by first | exact HG5.out.trans hg | exact (HG5.out.alloc _).trans hg | exact ((HG5.out.alloc _).alloc _).trans hg); have HP6 : Hid (PaS w6 pb b c T st) := hp; have HR6 : Hid (PhB w6 r #[.int .i64 0, .int .i64 0, .int .i64 0, .string ⟨#[]⟩, .string ⟨#[]⟩, .int .i64 0, .int .i64 0, .int .i64 0, .string ⟨#[]⟩, .slice none 0 0, .slice none 0 0]) := (by first | exact HR5.out.grow hg hrp | exact (HR5.out.allocI _).grow hg hrp | exact ((HR5.out.allocI _).allocI _).grow hg hrp); have HX6 : Hid (TkB w6 w2.heap.size #[.int .i64 0, .string ⟨#[]⟩, .int .i64 0]) := (by first | exact HX5.out.grow hg hxp | exact (HX5.out.allocI _).grow hg hxp | exact ((HX5.out.allocI _).allocI _).grow hg hxp); clear hp hg HP5 HG5 HR5 HX5)
    | (go_at_call 100; (first | refine (makeBegins_tok0 HP6.out hT hat hu).mono ?_ | refine (makeBegins_tok0 (HP6.out.allocI _) hT hat hu).mono ?_ | refine (makeBegins_tok0 ((HP6.out.allocI _).allocI _) hT hat hu).mono ?_); rintro e w7 ⟨rfl, hb⟩; have HG7 : Hid (GrowA pb w w7) := (by first | exact HG6.out.below hb | exact (HG6.out.alloc _).below hb | exact ((HG6.out.alloc _).alloc _).below hb); have HP7 : Hid (PaS w7 pb b c T st) := (by first | exact HP6.out.below hb | exact (HP6.out.allocI _).below hb | exact ((HP6.out.allocI _).allocI _).below hb); have HR7 : Hid (PhB w7 r #[.int .i64 0, .int .i64 0, .int .i64 0, .string ⟨#[]⟩, .string ⟨#[]⟩, .int .i64 0, .int .i64 0, .int .i64 0, .string ⟨#[]⟩, .slice none 0 0, .slice none 0 0]) := (by first | exact HR6.out.below hb | exact (HR6.out.allocI _).below hb | exact ((HR6.out.allocI _).allocI _).below hb); have HX7 : Hid (TkB w7 w2.heap.size #[.int .i64 0, .string ⟨#[]⟩, .int .i64 0]) := (by first | exact HX6.out.below hb | exact (HX6.out.allocI _).below hb | exact ((HX6.out.allocI _).allocI _).below hb); obtain ⟨c0, c1, c2⟩ := HX7.out.cells; clear hb HP6 HG6 HR6 HX6)
    | (go_at_call 18; (first | refine (miss_is HP7.out ).mono ?_ | refine (miss_is (HP7.out.allocI _) ).mono ?_ | refine (miss_is ((HP7.out.allocI _).allocI _) ).mono ?_); rintro e w8 ⟨rfl, hp, hg⟩; have HG8 : Hid (GrowA pb w w8) := (by first | exact HG7.out.trans hg | exact (HG7.out.alloc _).trans hg | exact ((HG7.out.alloc _).alloc _).trans hg); have HP8 : Hid (PaS w8 pb b c T (missM T st)) := hp; have HR8 : Hid (PhB w8 r #[.int .i64 0, .int .i64 0, .int .i64 0, .string ⟨#[]⟩, .string ⟨#[]⟩, .int .i64 0, .int .i64 0, .int .i64 0, .string ⟨#[]⟩, .slice none 0 0, .slice none 0 0]) := (by first | exact HR7.out.grow hg hrp | exact (HR7.out.allocI _).grow hg hrp | exact ((HR7.out.allocI _).allocI _).grow hg hrp); have HX8 : Hid (TkB w8 w2.heap.size #[.int .i64 0, .string ⟨#[]⟩, .int .i64 0]) := (by first | exact HX7.out.grow hg hxp | exact (HX7.out.allocI _).grow hg hxp | exact ((HX7.out.allocI _).allocI _).grow hg hxp); obtain ⟨⟨y0, y1, y2, y3, y4, y5, y6, y7, y8, y9, y10⟩, z0, z1, z2, z3, z4, z5, z6, z7, z8, z9, z10⟩ := HR8.out.cells; clear hp hg HP7 HG7 HR7 HX7))
  refine bodyPost_ret (v := .agg #[.int .i64 0, .int .i64 0, .int .i64 0, .string ⟨#[]⟩, .string ⟨#[]⟩, .int .i64 0, .int .i64 0, .int .i64 0, .string ⟨#[]⟩, .slice none 0 0, .slice none 0 0]) (by simp [results, Tryz.results97, go_sem, y0, y1, y2, y3, y4, y5, y6, y7, y8, y9, y10]) rfl ⟨_, PhV.mk, rfl, ?_, ?_⟩
  · (repeat (first | with_reducible refine PaS.setR ?_ hrp hrb _ _ | with_reducible refine PaS.allocI ?_ _ | exact HP8.out))
  · (repeat (first | with_reducible refine GrowA.setR ?_ HRW.out _ _ | with_reducible refine GrowA.alloc ?_ _ | exact HG8.out))
end Go.Proofs.YteapocgpenokfaaGreatDoor
