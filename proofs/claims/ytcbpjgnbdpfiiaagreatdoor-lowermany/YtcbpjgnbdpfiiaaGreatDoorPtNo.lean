/-
  THE PARSER's noStep, by what stands next.
-/
import Derived.Test.YtcbpjgnbdpfiiaaGreatDoorLaidP
set_option linter.unusedVariables false
namespace Go.Proofs.YtcbpjgnbdpfiiaaGreatDoor
set_option maxRecDepth 100000
open Go.RowKit

set_option maxHeartbeats 1600000 in
theorem noStep_num {pb b c : Nat} {T : List Tok} {st : Pst} {us : ByteArray} {un : Int} (hT : T.length ≤ 200) (hat : st.at' ≤ 300) (hu : seeM T st 0 = ⟨2, us, un⟩) : RunT pb b c T 166 #[.pointer (some ⟨pb, 0, none⟩)] st { st with at' := st.at' + 1 } (ph0 1 ⟨2, un, ⟨#[]⟩⟩ ⟨#[]⟩ 0 0 0 ⟨#[]⟩) := by
  intro w h htb
  have HTB : Hid (RTab w pb) := htb
  clear htb
  have hpl := h.pl
  have hbl := h.bl
  go_enter Tryz.func166, Tryz.ntmps166
  go_upto_region 1 with fail
  obtain ⟨W1, hW1⟩ : ∃ W, W = w.alloc (.cells #[.int .i64 0, .int .i64 0, .int .i64 0, .string ⟨#[]⟩, .string ⟨#[]⟩, .int .i64 0, .int .i64 0, .int .i64 0, .string ⟨#[]⟩, .slice none 0 0, .slice none 0 0] 38) := ⟨_, rfl⟩
  have HG1 : Hid (GrowA pb w W1) := by rw [hW1]; exact (GrowA.refl _ _).alloc _
  have HP1 : Hid (PaS W1 pb b c T st) := by rw [hW1]; exact h.allocI _
  have HR1 : Hid (PhB W1 w.heap.size #[.int .i64 0, .int .i64 0, .int .i64 0, .string ⟨#[]⟩, .string ⟨#[]⟩, .int .i64 0, .int .i64 0, .int .i64 0, .string ⟨#[]⟩, .slice none 0 0, .slice none 0 0]) := by rw [hW1]; exact PhB.new w _
  rw [← hW1]
  obtain ⟨r, hr⟩ : ∃ r, r = w.heap.size := ⟨_, rfl⟩
  have HRW : Hid (w.heap.size ≤ r) := Nat.le_of_eq hr.symm
  have hrp : r ≠ pb := by omega
  have hrb : r ≠ b := by omega
  rw [← hr] at HR1 ⊢
  clear hW1 hr h hpl hbl
  go_upto_region 2 with (first
    | (go_at_call 70; (first | refine (see_lit HP1.out 0 (by omega) hT hat hu).mono ?_ | refine (see_lit (HP1.out.allocI _) 0 (by omega) hT hat hu).mono ?_ | refine (see_lit ((HP1.out.allocI _).allocI _) 0 (by omega) hT hat hu).mono ?_); rintro e w2 ⟨rfl, hb⟩; have HG2 : Hid (GrowA pb w w2) := (by first | exact HG1.out.below hb | exact (HG1.out.alloc _).below hb | exact ((HG1.out.alloc _).alloc _).below hb); have HP2 : Hid (PaS w2 pb b c T st) := (by first | exact HP1.out.below hb | exact (HP1.out.allocI _).below hb | exact ((HP1.out.allocI _).allocI _).below hb); have HR2 : Hid (PhB w2 r #[.int .i64 0, .int .i64 0, .int .i64 0, .string ⟨#[]⟩, .string ⟨#[]⟩, .int .i64 0, .int .i64 0, .int .i64 0, .string ⟨#[]⟩, .slice none 0 0, .slice none 0 0]) := (by first | exact HR1.out.below hb | exact (HR1.out.allocI _).below hb | exact ((HR1.out.allocI _).allocI _).below hb); have hxp : w2.heap.size ≠ pb := (by have := HP2.out.pl; omega); clear hb HP1 HG1 HR1))
  obtain ⟨W3, hW3⟩ : ∃ W, W = w2.alloc (.cells #[.int .i64 2, .string us, .int .i64 un] 50) := ⟨_, rfl⟩
  have HP3 : Hid (PaS W3 pb b c T st) := by rw [hW3]; exact HP2.out.allocI _
  have HG3 : Hid (GrowA pb w W3) := by rw [hW3]; exact HG2.out.alloc _
  have HR3 : Hid (PhB W3 r #[.int .i64 0, .int .i64 0, .int .i64 0, .string ⟨#[]⟩, .string ⟨#[]⟩, .int .i64 0, .int .i64 0, .int .i64 0, .string ⟨#[]⟩, .slice none 0 0, .slice none 0 0]) := by rw [hW3]; exact HR2.out.allocI _
  have HX3 : Hid (TkB W3 w2.heap.size #[.int .i64 2, .string us, .int .i64 un]) := by rw [hW3]; exact TkB.new w2 _
  have hxp : w2.heap.size ≠ pb := by have := HP2.out.pl; omega
  rw [← hW3]
  clear hW3 HP2 HG2 HR2
  have x1 := HP3.out.a
  have f1 := HP3.out.fa
  have hl3 := HP3.out.pl
  have hx3 := HX3.out.lt
  have hr3 := HR3.out.lt
  obtain ⟨d0, d1, d2⟩ := HX3.out.cells
  have hwr : IntKind.i64.wrap ((st.at' : Int) + 1) = ((st.at' + 1 : Nat) : Int) := by rw [IntWalk.i64_in _ (by omega)]; simp
  obtain ⟨W4, hW4⟩ : ∃ W, W = W3.setCell ⟨pb, 1, none⟩ (.int .i64 ((st.at' : Int) + 1)) := ⟨_, rfl⟩
  have HP4 : Hid (PaS W4 pb b c T { st with at' := st.at' + 1 }) := by rw [hW4]; exact HP3.out.setA (st.at' + 1)
  have HG4 : Hid (GrowA pb w W4) := by rw [hW4]; exact HG3.out.set 1 _
  have HR4 : Hid (PhB W4 r #[.int .i64 0, .int .i64 0, .int .i64 0, .string ⟨#[]⟩, .string ⟨#[]⟩, .int .i64 0, .int .i64 0, .int .i64 0, .string ⟨#[]⟩, .slice none 0 0, .slice none 0 0]) := by rw [hW4]; exact HR3.out.grow ((GrowA.refl _ _).set 1 _) hrp
  have HX4 : Hid (TkB W4 w2.heap.size #[.int .i64 2, .string us, .int .i64 un]) := by rw [hW4]; exact HX3.out.grow ((GrowA.refl _ _).set 1 _) hxp
  go_upto_region 4 with fail
  rw [← hW4]
  clear hW4 x1 f1 hl3 hx3 hr3 d0 d1 d2 HP3 HG3 HR3 HX3
  obtain ⟨d0, d1, d2⟩ := HX4.out.cells
  have hx4 := HX4.out.lt
  have hr4 := HR4.out.lt
  obtain ⟨⟨y0, y1, y2, y3, y4, y5, y6, y7, y8, y9, y10⟩, z0, z1, z2, z3, z4, z5, z6, z7, z8, z9, z10⟩ := HR4.out.cells
  go_wp2
  refine bodyPost_ret (v := .agg #[.int .i64 1, .int .i64 2, .int .i64 un, .string ⟨#[]⟩, .string ⟨#[]⟩, .int .i64 0, .int .i64 0, .int .i64 0, .string ⟨#[]⟩, .slice none 0 0, .slice none 0 0]) (by simp [results, Tryz.results166, go_sem, y0, y1, y2, y3, y4, y5, y6, y7, y8, y9, y10]) rfl ⟨[.int .i64 1, .int .i64 2, .int .i64 un, .string ⟨#[]⟩, .string ⟨#[]⟩, .int .i64 0, .int .i64 0, .int .i64 0, .string ⟨#[]⟩, .slice none 0 0, .slice none 0 0], ?_, rfl, ?_, ?_⟩
  · exact tre_ph0
  · (repeat (first | with_reducible refine PaS.setR ?_ hrp hrb _ _ | with_reducible refine PaS.allocI ?_ _ | exact HP4.out))
  · (repeat (first | with_reducible refine GrowA.setR ?_ HRW.out _ _ | with_reducible refine GrowA.alloc ?_ _ | exact HG4.out))
end Go.Proofs.YtcbpjgnbdpfiiaaGreatDoor
