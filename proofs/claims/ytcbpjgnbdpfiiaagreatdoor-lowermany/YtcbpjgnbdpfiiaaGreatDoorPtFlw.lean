/-
  THE PARSER's flwor without a where and an order.
-/
import Derived.Test.YtcbpjgnbdpfiiaaGreatDoorPtBind
set_option linter.unusedVariables false
namespace Go.Proofs.YtcbpjgnbdpfiiaaGreatDoor
set_option maxRecDepth 100000
open Go.RowKit

/-- memory has grown from w0 on, but for the parser's block; as a walk keeps it -/
def GrowB (w0 : World) (pb : Nat) (w : World) : Prop := GrowA pb w0 w
theorem GrowB.below {w0 w w' : World} {pb : Nat} (h : GrowB w0 pb w) (hb : Below w.heap.size w w') : GrowB w0 pb w' := GrowA.below h hb
theorem GrowB.allocI {w0 w : World} {pb : Nat} (h : GrowB w0 pb w) (o : Obj) : GrowB w0 pb (w.alloc o) := GrowA.alloc h o
theorem GrowB.grow {w0 w w' : World} {pb : Nat} (h : GrowB w0 pb w) (hg : GrowA pb w w') : GrowB w0 pb w' := GrowA.trans h hg
theorem GrowB.setX {w0 w : World} {pb x : Nat} (h : GrowB w0 pb w) (hx : w0.heap.size ≤ x) (k : Nat) (v : Value) : GrowB w0 pb (w.setCell ⟨x, k, none⟩ v) := GrowA.setR h hx k v
theorem LOwn.setR {T : TypeId} {sz : Nat} {E : Nat → World → (Nat → Prop) → List Value → Prop} (hE : ∀ i, Keeps (E i)) {w : World} {lo r : Nat} {v : Value} {n : Nat} (h : LOwn T sz E w lo v n) (hr : r < lo) (k : Nat) (x : Value) : LOwn T sz E (w.setCell ⟨r, k, none⟩ x) lo v n := h.step hE (by simp) (fun b h1 h2 => Below.heap_setCell _ _ _ _ (by simp; omega))
theorem RunB.use {pb b c : Nat} {T : List Tok} {f : Nat} {st st' : Pst} {n : Nat} {CK : Nat → Int} {CN CA : Nat → ByteArray} {CD : Nat → Bool} {CE : Nat → Ph} (h : RunB pb b c T f st st' n CK CN CA CD CE) {w W : World} {r0 : Nat} (ht : RTab w pb) (hp : PaS W pb b c T st) (hg : GrowA pb w W) (hl : r0 < W.heap.size) :
    Calls Tryz.prog f #[.pointer (some ⟨pb, 0, none⟩)] W fun e w' => ∃ lo v, (r0 < lo ∧ pb < lo ∧ lo ≤ w'.heap.size) ∧ LOwn 140 15 (ClE CK CN CA CD CE) w' lo v n ∧ e = .returned v ∧ PaS w' pb b c T st' ∧ GrowA pb W w' :=
  (h W hp (ht.grow hg)).mono fun e w' ⟨v, h1, h2, h3, h4⟩ => ⟨W.heap.size, v, ⟨hl, hp.pl, h4.1⟩, h1, h2, h3, h4⟩
theorem tre_flwor {w : World} {lo : Nat} {p : Ph} {va vc : Value} {n : Nat} {CK : Nat → Int} {CN CA : Nat → ByteArray} {CD : Nat → Bool} {CE : Nat → Ph} (hA : Phs w lo 1 (fun _ => p) va) (hC : LOwn 140 15 (ClE CK CN CA CD CE) w lo vc n) : Tre w lo (.mk 28 ⟨0, 0, ⟨#[]⟩⟩ ⟨#[]⟩ 0 0 0 ⟨#[]⟩ 1 (fun _ => p) n CK CN CA CD CE) (phL 28 ⟨0, 0, ⟨#[]⟩⟩ ⟨#[]⟩ 0 0 0 ⟨#[]⟩ va vc) := by
  obtain ⟨a, c, h1, h2, h2', h3⟩ := hA
  subst h1
  obtain ⟨a', c', k1, k2, k3, k4⟩ := hC.lies (ClE.keeps CK CN CA CD CE)
  subst k1
  refine ⟨a, c, a', c', rfl, h2, k2, h2', k3, fun hn => ?_, fun hn => ?_⟩
  · obtain ⟨g, q1, q2, q3⟩ := h3 hn
    refine ⟨g, 0, q1, q2, fun i hi => ?_⟩
    obtain ⟨u, r1, r2⟩ := q3 i hi
    rw [Nat.zero_add]
    exact ⟨u, r1, r2⟩
  · obtain ⟨g, q1, q2, q3⟩ := k4 hn
    refine ⟨g, 0, q1, q2, fun i hi => ?_⟩
    obtain ⟨u, r0, r1, x, rfl, r2⟩ := q3 i hi
    rw [Nat.zero_add]
    exact ⟨x, r1, r2⟩
set_option maxHeartbeats 6400000 in
theorem flwor_plain {pb b c : Nat} {T : List Tok} {st s1 s2 s3 : Pst} {p : Ph} {n : Nat} {CK : Nat → Int} {CN CA : Nat → ByteArray} {CD : Nat → Bool} {CE : Nat → Ph} (hT : T.length ≤ 200) (hat : st.at' ≤ 300) (hat1 : s1.at' ≤ 300) (hbi : RunB pb b c T 137 st s1 n CK CN CA CD CE) (nw : eqT (seeM T s1 0) ⟨1, ⟨#[119, 104, 101, 114, 101]⟩, 0⟩ = false) (no : eqT (seeM T s1 0) ⟨1, ⟨#[111, 114, 100, 101, 114]⟩, 0⟩ = false) (hw : wantM T s1 ⟨1, ⟨#[114, 101, 116, 117, 114, 110]⟩, 0⟩ = s2) (hlu : RunT pb b c T 73 #[.pointer (some ⟨pb, 0, none⟩)] s2 s3 p) : RunT pb b c T 118 #[.pointer (some ⟨pb, 0, none⟩)] st s3 (.mk 28 ⟨0, 0, ⟨#[]⟩⟩ ⟨#[]⟩ 0 0 0 ⟨#[]⟩ 1 (fun _ => p) n CK CN CA CD CE) := by
  intro w h htb
  have HTB : Hid (RTab w pb) := htb
  have HLU : Hid (RunT pb b c T 73 #[.pointer (some ⟨pb, 0, none⟩)] s2 s3 p) := hlu
  have HBI : Hid (RunB pb b c T 137 st s1 n CK CN CA CD CE) := hbi
  clear htb hlu hbi
  have hpl := h.pl
  have hbl := h.bl
  go_enter Tryz.func118, Tryz.ntmps118
  go_upto_region 1 with fail
  obtain ⟨W1, hW1⟩ : ∃ W, W = w.alloc (.cells #[.int .i64 0, .int .i64 0, .int .i64 0, .string ⟨#[]⟩, .string ⟨#[]⟩, .int .i64 0, .int .i64 0, .int .i64 0, .string ⟨#[]⟩, .slice none 0 0, .slice none 0 0] 38) := ⟨_, rfl⟩
  have HG1 : Hid (GrowA pb w W1) := by rw [hW1]; exact (GrowA.refl _ _).alloc _
  have HP1 : Hid (PaS W1 pb b c T st) := by rw [hW1]; exact h.allocI _
  have HR1 : Hid (PhB W1 w.heap.size #[.int .i64 0, .int .i64 0, .int .i64 0, .string ⟨#[]⟩, .string ⟨#[]⟩, .int .i64 0, .int .i64 0, .int .i64 0, .string ⟨#[]⟩, .slice none 0 0, .slice none 0 0]) := by rw [hW1]; exact PhB.new w _
  rw [← hW1]
  obtain ⟨r, hr⟩ : ∃ r, r = w.heap.size := ⟨_, rfl⟩
  have HRW : Hid (w.heap.size ≤ r) := Nat.le_of_eq hr.symm
  have hrp : r ≠ pb := by omega
  have hrb : r ≠ b := by omega
  rw [← hr] at HR1 ⊢
  clear hW1 hr h hpl hbl
  go_upto_region 2 with (go_at_call 137; refine (HBI.out.use HTB.out HP1.out HG1.out (show r < _ from by have k := HR1.out.lt; first | exact k | (simp; omega))).mono ?_; rintro e w2 ⟨lo0, v, hlo, hv, rfl, hp, hg⟩; obtain ⟨ac, cc, rfl⟩ := hv.form; have HC2 : Hid (LOwn 140 15 (ClE CK CN CA CD CE) w2 lo0 (.slice ac n cc) n) := hv; have hl0 := hlo.1; have hp0 := hlo.2.1; have hz0 := hlo.2.2; have HG2 : Hid (GrowA pb w w2) := HG1.out.trans hg; have HP2 : Hid (PaS w2 pb b c T s1) := hp; have HR2 : Hid (PhB w2 r #[.int .i64 0, .int .i64 0, .int .i64 0, .string ⟨#[]⟩, .string ⟨#[]⟩, .int .i64 0, .int .i64 0, .int .i64 0, .string ⟨#[]⟩, .slice none 0 0, .slice none 0 0]) := HR1.out.grow hg hrp; clear hv hlo hp hg HP1 HG1 HR1)
  obtain ⟨W3, hW3⟩ : ∃ W, W = w2.alloc (.cells #[.int .i64 28, .int .i64 0, .int .i64 0, .string ⟨#[]⟩, .string ⟨#[]⟩, .int .i64 0, .int .i64 0, .int .i64 0, .string ⟨#[]⟩, .slice none 0 0, .slice ac n cc] 38) := ⟨_, rfl⟩
  have HP3 : Hid (PaS W3 pb b c T s1) := by rw [hW3]; exact HP2.out.allocI _
  have HG3 : Hid (GrowA pb w W3) := by rw [hW3]; exact HG2.out.alloc _
  have HR3 : Hid (PhB W3 r #[.int .i64 0, .int .i64 0, .int .i64 0, .string ⟨#[]⟩, .string ⟨#[]⟩, .int .i64 0, .int .i64 0, .int .i64 0, .string ⟨#[]⟩, .slice none 0 0, .slice none 0 0]) := by rw [hW3]; exact HR2.out.allocI _
  have HX3 : Hid (PhB W3 w2.heap.size #[.int .i64 28, .int .i64 0, .int .i64 0, .string ⟨#[]⟩, .string ⟨#[]⟩, .int .i64 0, .int .i64 0, .int .i64 0, .string ⟨#[]⟩, .slice none 0 0, .slice ac n cc]) := by rw [hW3]; exact PhB.new w2 _
  have HK3 : Hid (GrowB w2 pb W3) := by rw [hW3]; exact GrowA.alloc (GrowA.refl _ _) _
  have hxp : w2.heap.size ≠ pb := by have := HP2.out.pl; omega
  have hxb : w2.heap.size ≠ b := by have := HP2.out.bl; omega
  have hxw : w.heap.size ≤ w2.heap.size := HG2.out.1
  have hrx2 : r < w2.heap.size := HR2.out.lt
  have hrx : r ≠ w2.heap.size := by omega
  rw [← hW3]
  clear hW3 HP2 HG2 HR2
  go_upto_region 8 with (first
    | (go_at_call 117; have HNX := HP3; refine (word_is _ _).mono ?_; rintro e w4 ⟨rfl, hb⟩; have HG4 : Hid (GrowA pb w w4) := (by first | exact HG3.out.below hb | exact (HG3.out.alloc _).below hb | exact ((HG3.out.alloc _).alloc _).below hb); have HP4 : Hid (PaS w4 pb b c T s1) := (by first | exact HP3.out.below hb | exact (HP3.out.allocI _).below hb | exact ((HP3.out.allocI _).allocI _).below hb); have HR4 : Hid (PhB w4 r #[.int .i64 0, .int .i64 0, .int .i64 0, .string ⟨#[]⟩, .string ⟨#[]⟩, .int .i64 0, .int .i64 0, .int .i64 0, .string ⟨#[]⟩, .slice none 0 0, .slice none 0 0]) := (by first | exact HR3.out.below hb | exact (HR3.out.allocI _).below hb | exact ((HR3.out.allocI _).allocI _).below hb); have HX4 : Hid (PhB w4 w2.heap.size #[.int .i64 28, .int .i64 0, .int .i64 0, .string ⟨#[]⟩, .string ⟨#[]⟩, .int .i64 0, .int .i64 0, .int .i64 0, .string ⟨#[]⟩, .slice none 0 0, .slice ac n cc]) := (by first | exact HX3.out.below hb | exact (HX3.out.allocI _).below hb | exact ((HX3.out.allocI _).allocI _).below hb); have HK4 : Hid (GrowB w2 pb w4) := (by first | exact HK3.out.below hb | exact (HK3.out.allocI _).below hb | exact ((HK3.out.allocI _).allocI _).below hb); clear hb HNX HP3 HG3 HR3 HX3 HK3)
    | (go_at_call 74; (first | refine (skip_no HP4.out hT hat1 _ _ _ nw).mono ?_ | refine (skip_no (HP4.out.allocI _) hT hat1 _ _ _ nw).mono ?_ | refine (skip_no ((HP4.out.allocI _).allocI _) hT hat1 _ _ _ nw).mono ?_); rintro e w5 ⟨rfl, hp, hg⟩; have HG5 : Hid (GrowA pb w w5) := (by first | exact HG4.out.trans hg | exact (HG4.out.alloc _).trans hg | exact ((HG4.out.alloc _).alloc _).trans hg); have HP5 : Hid (PaS w5 pb b c T s1) := hp; have HR5 : Hid (PhB w5 r #[.int .i64 0, .int .i64 0, .int .i64 0, .string ⟨#[]⟩, .string ⟨#[]⟩, .int .i64 0, .int .i64 0, .int .i64 0, .string ⟨#[]⟩, .slice none 0 0, .slice none 0 0]) := (by first | exact HR4.out.grow hg hrp | exact (HR4.out.allocI _).grow hg hrp | exact ((HR4.out.allocI _).allocI _).grow hg hrp); have HX5 : Hid (PhB w5 w2.heap.size #[.int .i64 28, .int .i64 0, .int .i64 0, .string ⟨#[]⟩, .string ⟨#[]⟩, .int .i64 0, .int .i64 0, .int .i64 0, .string ⟨#[]⟩, .slice none 0 0, .slice ac n cc]) := (by first | exact HX4.out.grow hg hxp | exact (HX4.out.allocI _).grow hg hxp | exact ((HX4.out.allocI _).allocI _).grow hg hxp); have HK5 : Hid (GrowB w2 pb w5) := (by first | exact HK4.out.grow hg | exact (HK4.out.allocI _).grow hg | exact ((HK4.out.allocI _).allocI _).grow hg); clear hp hg HP4 HG4 HR4 HX4 HK4)
    | (go_at_call 117; have HNX := HP5; refine (word_is _ _).mono ?_; rintro e w6 ⟨rfl, hb⟩; have HG6 : Hid (GrowA pb w w6) := (by first | exact HG5.out.below hb | exact (HG5.out.alloc _).below hb | exact ((HG5.out.alloc _).alloc _).below hb); have HP6 : Hid (PaS w6 pb b c T s1) := (by first | exact HP5.out.below hb | exact (HP5.out.allocI _).below hb | exact ((HP5.out.allocI _).allocI _).below hb); have HR6 : Hid (PhB w6 r #[.int .i64 0, .int .i64 0, .int .i64 0, .string ⟨#[]⟩, .string ⟨#[]⟩, .int .i64 0, .int .i64 0, .int .i64 0, .string ⟨#[]⟩, .slice none 0 0, .slice none 0 0]) := (by first | exact HR5.out.below hb | exact (HR5.out.allocI _).below hb | exact ((HR5.out.allocI _).allocI _).below hb); have HX6 : Hid (PhB w6 w2.heap.size #[.int .i64 28, .int .i64 0, .int .i64 0, .string ⟨#[]⟩, .string ⟨#[]⟩, .int .i64 0, .int .i64 0, .int .i64 0, .string ⟨#[]⟩, .slice none 0 0, .slice ac n cc]) := (by first | exact HX5.out.below hb | exact (HX5.out.allocI _).below hb | exact ((HX5.out.allocI _).allocI _).below hb); have HK6 : Hid (GrowB w2 pb w6) := (by first | exact HK5.out.below hb | exact (HK5.out.allocI _).below hb | exact ((HK5.out.allocI _).allocI _).below hb); clear hb HNX HP5 HG5 HR5 HX5 HK5)
    | (go_at_call 74; (first | refine (skip_no HP6.out hT hat1 _ _ _ no).mono ?_ | refine (skip_no (HP6.out.allocI _) hT hat1 _ _ _ no).mono ?_ | refine (skip_no ((HP6.out.allocI _).allocI _) hT hat1 _ _ _ no).mono ?_); rintro e w7 ⟨rfl, hp, hg⟩; have HG7 : Hid (GrowA pb w w7) := (by first | exact HG6.out.trans hg | exact (HG6.out.alloc _).trans hg | exact ((HG6.out.alloc _).alloc _).trans hg); have HP7 : Hid (PaS w7 pb b c T s1) := hp; have HR7 : Hid (PhB w7 r #[.int .i64 0, .int .i64 0, .int .i64 0, .string ⟨#[]⟩, .string ⟨#[]⟩, .int .i64 0, .int .i64 0, .int .i64 0, .string ⟨#[]⟩, .slice none 0 0, .slice none 0 0]) := (by first | exact HR6.out.grow hg hrp | exact (HR6.out.allocI _).grow hg hrp | exact ((HR6.out.allocI _).allocI _).grow hg hrp); have HX7 : Hid (PhB w7 w2.heap.size #[.int .i64 28, .int .i64 0, .int .i64 0, .string ⟨#[]⟩, .string ⟨#[]⟩, .int .i64 0, .int .i64 0, .int .i64 0, .string ⟨#[]⟩, .slice none 0 0, .slice ac n cc]) := (by first | exact HX6.out.grow hg hxp | exact (HX6.out.allocI _).grow hg hxp | exact ((HX6.out.allocI _).allocI _).grow hg hxp); have HK7 : Hid (GrowB w2 pb w7) := (by first | exact HK6.out.grow hg | exact (HK6.out.allocI _).grow hg | exact ((HK6.out.allocI _).allocI _).grow hg); clear hp hg HP6 HG6 HR6 HX6 HK6)
    | (go_at_call 117; have HNX := HP7; refine (word_is _ _).mono ?_; rintro e w8 ⟨rfl, hb⟩; have HG8 : Hid (GrowA pb w w8) := (by first | exact HG7.out.below hb | exact (HG7.out.alloc _).below hb | exact ((HG7.out.alloc _).alloc _).below hb); have HP8 : Hid (PaS w8 pb b c T s1) := (by first | exact HP7.out.below hb | exact (HP7.out.allocI _).below hb | exact ((HP7.out.allocI _).allocI _).below hb); have HR8 : Hid (PhB w8 r #[.int .i64 0, .int .i64 0, .int .i64 0, .string ⟨#[]⟩, .string ⟨#[]⟩, .int .i64 0, .int .i64 0, .int .i64 0, .string ⟨#[]⟩, .slice none 0 0, .slice none 0 0]) := (by first | exact HR7.out.below hb | exact (HR7.out.allocI _).below hb | exact ((HR7.out.allocI _).allocI _).below hb); have HX8 : Hid (PhB w8 w2.heap.size #[.int .i64 28, .int .i64 0, .int .i64 0, .string ⟨#[]⟩, .string ⟨#[]⟩, .int .i64 0, .int .i64 0, .int .i64 0, .string ⟨#[]⟩, .slice none 0 0, .slice ac n cc]) := (by first | exact HX7.out.below hb | exact (HX7.out.allocI _).below hb | exact ((HX7.out.allocI _).allocI _).below hb); have HK8 : Hid (GrowB w2 pb w8) := (by first | exact HK7.out.below hb | exact (HK7.out.allocI _).below hb | exact ((HK7.out.allocI _).allocI _).below hb); clear hb HNX HP7 HG7 HR7 HX7 HK7)
    | (go_at_call 139; (first | refine (want_eq HP8.out hT hat1 hw).mono ?_ | refine (want_eq (HP8.out.allocI _) hT hat1 hw).mono ?_ | refine (want_eq ((HP8.out.allocI _).allocI _) hT hat1 hw).mono ?_); rintro e w9 ⟨rfl, hp, hg⟩; have HG9 : Hid (GrowA pb w w9) := (by first | exact HG8.out.trans hg | exact (HG8.out.alloc _).trans hg | exact ((HG8.out.alloc _).alloc _).trans hg); have HP9 : Hid (PaS w9 pb b c T s2) := hp; have HR9 : Hid (PhB w9 r #[.int .i64 0, .int .i64 0, .int .i64 0, .string ⟨#[]⟩, .string ⟨#[]⟩, .int .i64 0, .int .i64 0, .int .i64 0, .string ⟨#[]⟩, .slice none 0 0, .slice none 0 0]) := (by first | exact HR8.out.grow hg hrp | exact (HR8.out.allocI _).grow hg hrp | exact ((HR8.out.allocI _).allocI _).grow hg hrp); have HX9 : Hid (PhB w9 w2.heap.size #[.int .i64 28, .int .i64 0, .int .i64 0, .string ⟨#[]⟩, .string ⟨#[]⟩, .int .i64 0, .int .i64 0, .int .i64 0, .string ⟨#[]⟩, .slice none 0 0, .slice ac n cc]) := (by first | exact HX8.out.grow hg hxp | exact (HX8.out.allocI _).grow hg hxp | exact ((HX8.out.allocI _).allocI _).grow hg hxp); have HK9 : Hid (GrowB w2 pb w9) := (by first | exact HK8.out.grow hg | exact (HK8.out.allocI _).grow hg | exact ((HK8.out.allocI _).allocI _).grow hg); clear hp hg HP8 HG8 HR8 HX8 HK8)
    | (go_at_call 73; (first | refine (HLU.out.use HTB.out HP9.out HG9.out (show w2.heap.size < _ from by have k := HX9.out.lt; first | exact k | (simp; omega))).mono ?_ | refine (HLU.out.use HTB.out (HP9.out.allocI _) (HG9.out.alloc _) (show w2.heap.size < _ from by have k := HX9.out.lt; first | exact k | (simp; omega))).mono ?_ | refine (HLU.out.use HTB.out ((HP9.out.allocI _).allocI _) ((HG9.out.alloc _).alloc _) (show w2.heap.size < _ from by have k := HX9.out.lt; first | exact k | (simp; omega))).mono ?_); rintro e w10 ⟨lo1, v, hlo, hv, rfl, hp, hg⟩; obtain ⟨k0_1, k1_1, k2_1, k5_1, k6_1, k7_1, s3_1, s4_1, s8_1, a9_1, a10_1, l9_1, c9_1, l10_1, c10_1, rfl⟩ := hv.form; have hlo1 := hlo.1; have hlp1 := hlo.2.1; have hlz1 := hlo.2.2; have HG10 : Hid (GrowA pb w w10) := (by first | exact HG9.out.trans hg | exact (HG9.out.alloc _).trans hg | exact ((HG9.out.alloc _).alloc _).trans hg); have HP10 : Hid (PaS w10 pb b c T s3) := hp; have HR10 : Hid (PhB w10 r #[.int .i64 0, .int .i64 0, .int .i64 0, .string ⟨#[]⟩, .string ⟨#[]⟩, .int .i64 0, .int .i64 0, .int .i64 0, .string ⟨#[]⟩, .slice none 0 0, .slice none 0 0]) := (by first | exact HR9.out.grow hg hrp | exact (HR9.out.allocI _).grow hg hrp | exact ((HR9.out.allocI _).allocI _).grow hg hrp); have HX10 : Hid (PhB w10 w2.heap.size #[.int .i64 28, .int .i64 0, .int .i64 0, .string ⟨#[]⟩, .string ⟨#[]⟩, .int .i64 0, .int .i64 0, .int .i64 0, .string ⟨#[]⟩, .slice none 0 0, .slice ac n cc]) := (by first | exact HX9.out.grow hg hxp | exact (HX9.out.allocI _).grow hg hxp | exact ((HX9.out.allocI _).allocI _).grow hg hxp); have HK10 : Hid (GrowB w2 pb w10) := (by first | exact HK9.out.grow hg | exact (HK9.out.allocI _).grow hg | exact ((HK9.out.allocI _).allocI _).grow hg); have HV1_10 : Hid (Tre w10 lo1 p [.int .i64 k0_1, .int .i64 k1_1, .int .i64 k2_1, .string s3_1, .string s4_1, .int .i64 k5_1, .int .i64 k6_1, .int .i64 k7_1, .string s8_1, .slice a9_1 l9_1 c9_1, .slice a10_1 l10_1 c10_1]) := hv; obtain ⟨⟨m0, m1, m2, m3, m4, m5, m6, m7, m8, m9, m10⟩, j0, j1, j2, j3, j4, j5, j6, j7, j8, j9, j10⟩ := HX10.out.cells; have hxz := HX10.out.lt; have hrz := HR10.out.lt; clear hv hlo hp hg HP9 HG9 HR9 HX9 HK9))
  obtain ⟨W11, hW11⟩ : ∃ W, W = (w10.setCell ⟨w2.heap.size, 9, none⟩ (.slice (some ⟨w10.heap.size, 0, none⟩) 1 1)).alloc (.cells #[.int .i64 k0_1, .int .i64 k1_1, .int .i64 k2_1, .string s3_1, .string s4_1, .int .i64 k5_1, .int .i64 k6_1, .int .i64 k7_1, .string s8_1, .slice a9_1 l9_1 c9_1, .slice a10_1 l10_1 c10_1] 38) := ⟨_, rfl⟩
  have HP11 : Hid (PaS W11 pb b c T s3) := by rw [hW11]; exact (HP10.out.setR hxp hxb 9 _).allocI _
  have HG11 : Hid (GrowA pb w W11) := by rw [hW11]; exact (HG10.out.setR hxw 9 _).alloc _
  have HR11 : Hid (PhB W11 r #[.int .i64 0, .int .i64 0, .int .i64 0, .string ⟨#[]⟩, .string ⟨#[]⟩, .int .i64 0, .int .i64 0, .int .i64 0, .string ⟨#[]⟩, .slice none 0 0, .slice none 0 0]) := by rw [hW11]; exact (HR10.out.setO hrx 9 _).allocI _
  have HX11 : Hid (PhB W11 w2.heap.size #[.int .i64 28, .int .i64 0, .int .i64 0, .string ⟨#[]⟩, .string ⟨#[]⟩, .int .i64 0, .int .i64 0, .int .i64 0, .string ⟨#[]⟩, .slice (some ⟨w10.heap.size, 0, none⟩) 1 1, .slice ac n cc]) := by rw [hW11]; exact (HX10.out.setAt 9 (.slice (some ⟨w10.heap.size, 0, none⟩) 1 1)).allocI _
  have HK11 : Hid (GrowB w2 pb W11) := by rw [hW11]; exact (HK10.out.setX (Nat.le_refl _) 9 _).allocI _
  have HA11 : Hid (Phs W11 lo0 1 (fun _ => p) (.slice (some ⟨w10.heap.size, 0, none⟩) 1 1)) := by rw [hW11]; exact (phs_at (by simp) (HV1_10.out.setR hlo1 9 _) hlz1 rfl).mono (by omega)
  have HC11 : Hid (LOwn 140 15 (ClE CK CN CA CD CE) W11 lo0 (.slice ac n cc) n) := HC2.out.grow (ClE.keeps CK CN CA CD CE) HK11.out hp0
  rw [← hW11]
  clear hW11 HP10 HG10 HR10 HX10 HV1_10 HK10 HC2 hxz hrz m0 j0 m1 j1 m2 j2 m3 j3 m4 j4 m5 j5 m6 j6 m7 j7 m8 j8 m9 j9 m10 j10
  obtain ⟨⟨y0, y1, y2, y3, y4, y5, y6, y7, y8, y9, y10⟩, z0, z1, z2, z3, z4, z5, z6, z7, z8, z9, z10⟩ := HR11.out.cells
  obtain ⟨⟨m0, m1, m2, m3, m4, m5, m6, m7, m8, m9, m10⟩, j0, j1, j2, j3, j4, j5, j6, j7, j8, j9, j10⟩ := HX11.out.cells
  go_wp2
  refine bodyPost_ret (v := .agg #[.int .i64 28, .int .i64 0, .int .i64 0, .string ⟨#[]⟩, .string ⟨#[]⟩, .int .i64 0, .int .i64 0, .int .i64 0, .string ⟨#[]⟩, .slice (some ⟨w10.heap.size, 0, none⟩) 1 1, .slice ac n cc]) (by simp [results, Tryz.results118, go_sem, y0, y1, y2, y3, y4, y5, y6, y7, y8, y9, y10]) rfl ⟨[.int .i64 28, .int .i64 0, .int .i64 0, .string ⟨#[]⟩, .string ⟨#[]⟩, .int .i64 0, .int .i64 0, .int .i64 0, .string ⟨#[]⟩, .slice (some ⟨w10.heap.size, 0, none⟩) 1 1, .slice ac n cc], ?_, rfl, ?_, ?_⟩
  · refine Tre.mono (lo := lo0) ?_ (by have := HRW.out; omega)
    refine tre_flwor (va := .slice (some ⟨w10.heap.size, 0, none⟩) 1 1) (vc := .slice ac n cc) ?_ ?_
    · (repeat (first | with_reducible refine Phs.setR ?_ hl0 _ _ | with_reducible refine Phs.allocI ?_ _ | with_reducible exact HA11.out))
    · (repeat (first | with_reducible refine LOwn.setR (ClE.keeps CK CN CA CD CE) ?_ hl0 _ _ | with_reducible exact HC11.out))
  · (repeat (first | with_reducible refine PaS.setR ?_ hrp hrb _ _ | with_reducible refine PaS.allocI ?_ _ | exact HP11.out))
  · (repeat (first | with_reducible refine GrowA.setR ?_ HRW.out _ _ | with_reducible refine GrowA.alloc ?_ _ | exact HG11.out))
end Go.Proofs.YtcbpjgnbdpfiiaaGreatDoor
