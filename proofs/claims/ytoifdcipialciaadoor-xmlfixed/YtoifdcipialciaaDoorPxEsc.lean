/-
  CONTRACT of the parser's escaped: what is escaped stands in a table.
-/
import Derived.Test.YtoifdcipialciaaDoorEsc
import Derived.Test.YtoifdcipialciaaDoorPxAdd
import Derived.RegionTactic
set_option linter.unusedVariables false
namespace Go.Proofs.YtoifdcipialciaaDoor
set_option maxRecDepth 100000
open Go.RowKit

def escT (k : Nat) : ByteArray := if k = 0 then ⟨#[38, 97, 109, 112, 59]⟩ else if k = 1 then ⟨#[38, 108, 116, 59]⟩ else if k = 2 then ⟨#[38, 103, 116, 59]⟩ else ⟨#[38, 113, 117, 111, 116, 59]⟩
/-- may a text of the table still come? -/
def mayB (s : ByteArray) (p k : Nat) : Bool := Lib.hasPrefix (escT k).data.toList (s.extract p s.size).data.toList
/-- the table from a place on: the first one that stands there; else what is told -/
def esF (s : ByteArray) (p : Nat) : Nat → Nat → Int → Int × Nat
  | 0, k, e => (e, k)
  | n + 1, k, e => if hitB s p (escT k) = true then (0, k) else esF s p n (k + 1) (if mayB s p k = true then 5 else e)
def esE (s : ByteArray) (p : Nat) : Int := (esF s p 4 0 4).1
def esK (s : ByteArray) (p : Nat) : Nat := (esF s p 4 0 4).2
def esC (s : ByteArray) (p : Nat) : Int := if esE s p = 0 then ((tab (esK s p)).toNat : Int) else 0
def esTo (s : ByteArray) (p : Nat) : Nat := if esE s p = 0 then p + (escT (esK s p)).size else p
theorem es_hit {s : ByteArray} {p n k : Nat} {e : Int} (h : hitB s p (escT k) = true) : esF s p (n + 1) k e = (0, k) := by rw [esF, if_pos h]
theorem es_miss {s : ByteArray} {p n k : Nat} {e : Int} (h : hitB s p (escT k) = false) : esF s p (n + 1) k e = esF s p n (k + 1) (if mayB s p k = true then 5 else e) := by rw [esF, if_neg (by rw [h]; decide)]
theorem GrowP.alloc {pb : Nat} {w wr : World} (h : GrowP pb w wr) (o : Obj) : GrowP pb w (wr.alloc o) := h.below ((Below.refl _ _).alloc (Nat.le_refl _) o)
theorem GrowP.drewN {pb : Nat} {w wr : World} (h : GrowP pb w wr) (q : Nat) : GrowP pb w (wr.drewN q) := h
theorem GrowP.refl (pb : Nat) (w : World) : GrowP pb w w := (ByP.refl pb w).grow
theorem GrowP.trans {pb : Nat} {a b c : World} (h : GrowP pb a b) (h' : GrowP pb b c) : GrowP pb a c := ⟨Nat.le_trans h.1 h'.1, h'.2.1.trans h.2.1, h'.2.2.1.trans h.2.2.1, h'.2.2.2.1.trans h.2.2.2.1, fun k h1 hk => (h'.2.2.2.2 k (Nat.lt_of_lt_of_le h1 h.1) hk).trans (h.2.2.2.2 k h1 hk)⟩
theorem GrowP.set {pb : Nat} {w wr : World} (h : GrowP pb w wr) (t : Nat) (u : Value) : GrowP pb w (wr.setCell ⟨pb, t, none⟩ u) := h.trans ((ByP.refl pb wr).set t u).grow
theorem PCells.alloc {w : World} {pb : Nat} {s : ByteArray} {p : Nat} {ev op : Value} (h : PCells w pb s p ev op) (o : Obj) : PCells (w.alloc o) pb s p ev op := h.below ((Below.refl _ _).alloc (Nat.le_refl _) o)
set_option maxHeartbeats 3200000 in
theorem escaped_is (pb : Nat) (s : ByteArray) (p : Nat) (ev op : Value) (w : World) (h : PCells w pb s p ev op) (hp : p ≤ s.size) (hs : s.size ≤ 4000) (ht : EscTab w) :
    Calls Tryd.prog 48 #[.pointer (some ⟨pb, 0, none⟩)] w fun e w' => e = .returned (.tuple #[.int .u8 (esC s p), .int .i64 (esE s p)]) ∧ PCells w' pb s (esTo s p) ev op ∧ GrowP pb w w' := by
  have HP : Hid (PCells w pb s p ev op) := h
  obtain ⟨h0, h1, h2, h3, h4, h5, h6, h7⟩ := h
  obtain ⟨tt, fr, hg⟩ := ht
  have HG : Hid (w.heap[0]? = some (.cells escCells tt fr)) := hg
  clear hg
  have hp1 : (p : Int) ≤ (s.size : Int) := by omega
  have i0 : ∀ w, (Instr.index 64 (.agg escCells) (.int .i64 0)).run Tryd.prog w = .ok (.agg #[.int .u8 38, .string ⟨#[38, 97, 109, 112, 59]⟩]) w := fun _ => by kernel_rfl
  have i1 : ∀ w, (Instr.index 64 (.agg escCells) (.int .i64 1)).run Tryd.prog w = .ok (.agg #[.int .u8 60, .string ⟨#[38, 108, 116, 59]⟩]) w := fun _ => by kernel_rfl
  have i2 : ∀ w, (Instr.index 64 (.agg escCells) (.int .i64 2)).run Tryd.prog w = .ok (.agg #[.int .u8 62, .string ⟨#[38, 103, 116, 59]⟩]) w := fun _ => by kernel_rfl
  have i3 : ∀ w, (Instr.index 64 (.agg escCells) (.int .i64 3)).run Tryd.prog w = .ok (.agg #[.int .u8 34, .string ⟨#[38, 113, 117, 111, 116, 59]⟩]) w := fun _ => by kernel_rfl
  go_enter Tryd.func48, Tryd.ntmps48
  go_upto_region 1 with fail
  go_quiet (fail)
  obtain ⟨W1, hW1⟩ : ∃ W, W = w.drewN nq := ⟨_, rfl⟩
  rw [← hW1]
  have HP1 : Hid (PCells W1 pb s p ev op) := by rw [hW1]; exact HP.out.drewN nq
  have HB1 : Hid (GrowP pb w W1) := by rw [hW1]; exact (GrowP.refl _ _).drewN nq
  have HG1 : Hid (W1.heap[0]? = some (.cells escCells tt fr)) := by rw [hW1]; exact HG.out
  clear hW1 h0 h1 h2 h3 h4 h5 h6 h7
  go_wp2_with (refine wpList_load_row rfl 64 _ rfl 0 rfl tt _ fr _ HG1.out Tryd.underlying64 rfl (by kernel_rfl) ?_)
  go_loopw [5, 18] (fun ee i wr => ∃ (k : Nat) (x : Int), k ≤ 4 ∧ i = .int .i64 k ∧ ee = .int .i64 x ∧ esF s p 4 0 4 = esF s p (4 - k) k x ∧ (x = 4 ∨ x = 5) ∧ PCells wr pb s p ev op ∧ GrowP pb w wr) (fun _ i _ => 4 - (intOf i).toNat)
  case atStart => exact ⟨0, 4, by omega, rfl, rfl, rfl, .inl rfl, HP1.out, HB1.out⟩
  case round =>
    obtain ⟨k, x, hk, rfl, rfl, hes, hx, hpc, hby⟩ := hrel
    have HES : Hid (esF s p 4 0 4 = esF s p (4 - k) k x) := hes
    have HX : Hid (x = 4 ∨ x = 5) := hx
    have HPC : Hid (PCells wr pb s p ev op) := hpc
    have HBY : Hid (GrowP pb w wr) := hby
    clear hes hx hpc hby
    have hk4 : k = 0 ∨ k = 1 ∨ k = 2 ∨ k = 3 ∨ k = 4 := by omega
    rcases hk4 with rfl | rfl | rfl | rfl | rfl
    · have HPA : Hid (PCells (wr.alloc (.cells #[.int .u8 38, .string ⟨#[38, 97, 109, 112, 59]⟩] 63)) pb s p ev op) := HPC.out.alloc _
      have HBA : Hid (GrowP pb w (wr.alloc (.cells #[.int .u8 38, .string ⟨#[38, 97, 109, 112, 59]⟩] 63))) := HBY.out.alloc _
      have CH : Hid (∀ W, Calls Tryd.prog 37 #[.string (s.extract p s.size), .string ⟨#[38, 97, 109, 112, 59]⟩] W fun e w' => e = .returned (.bool (hitB s p (escT 0))) ∧ w' = W) := fun W => Tryd.strings_HasPrefix (s.extract p s.size) ⟨#[38, 97, 109, 112, 59]⟩ W
      have CM : Hid (∀ W, Calls Tryd.prog 37 #[.string ⟨#[38, 97, 109, 112, 59]⟩, .string (s.extract p s.size)] W fun e w' => e = .returned (.bool (mayB s p 0)) ∧ w' = W) := fun W => Tryd.strings_HasPrefix ⟨#[38, 97, 109, 112, 59]⟩ (s.extract p s.size) W
      cases hh : hitB s p (escT 0)
      · have HST : Hid (esF s p 4 0 4 = esF s p (4 - (0 + 1)) (0 + 1) (if mayB s p 0 = true then 5 else x)) := HES.out.trans (es_miss hh)
        rw [hh] at CH
        clear hh
        cases hm : mayB s p 0
        · rw [hm] at CM
          have HST2 : Hid (esF s p 4 0 4 = esF s p (4 - (0 + 1)) (0 + 1) x) := by have h := HST.out; rw [if_neg (by rw [hm]; decide)] at h; exact h
          clear hm
          go_wp2_with (first
            | (go_at_call 37; refine (CH.out _).mono ?_; rintro e w2 ⟨rfl, rfl⟩; clear CH)
            | (go_at_call 37; refine (CM.out _).mono ?_; rintro e w2 ⟨rfl, rfl⟩; clear CM))
          go_roundw
          case rel => exact ⟨0 + 1, x, by omega, by go_num, rfl, HST2.out, HX.out, HPA.out, HBA.out⟩
          case measure => simp [intOf]
        · rw [hm] at CM
          have HST2 : Hid (esF s p 4 0 4 = esF s p (4 - (0 + 1)) (0 + 1) 5) := by have h := HST.out; rw [if_pos hm] at h; exact h
          clear hm
          go_wp2_with (first
            | (go_at_call 37; refine (CH.out _).mono ?_; rintro e w2 ⟨rfl, rfl⟩; clear CH)
            | (go_at_call 37; refine (CM.out _).mono ?_; rintro e w2 ⟨rfl, rfl⟩; clear CM))
          go_roundw
          case rel => exact ⟨0 + 1, 5, by omega, by go_num, rfl, HST2.out, .inr rfl, HPA.out, HBA.out⟩
          case measure => simp [intOf]
      · have HST : Hid (esF s p 4 0 4 = (0, 0)) := HES.out.trans (es_hit hh)
        rw [hh] at CH
        clear hh CM
        obtain ⟨y0, y1, y2, y3, y4, y5, y6, y7⟩ := HPC.out
        have hwa : IntKind.i64.wrap ((p : Int) + 5) = (p : Int) + 5 := IntWalk.i64_in _ (by omega)
        go_upto_region 7 with (first
            | (go_at_call 37; refine (CH.out _).mono ?_; rintro e w2 ⟨rfl, rfl⟩; clear CH))
        go_region
        all_goals
          (try go_wp2)
          refine bodyPost_ret (v := .tuple #[.int .u8 38, .int .i64 0]) (by simp [results, Tryd.results48, go_sem]) rfl ⟨by unfold esC esK esE; rw [HST.out]; rfl, ?_, ?_⟩
          · have h := (HPC.out.at (p + 5))
            rw [show ((p + 5 : Nat) : Int) = (p : Int) + 5 by simp] at h
            unfold esTo esE esK
            rw [HST.out]
            exact (h.alloc _).drewN 1
          · exact ((HBY.out.set _ _).alloc _).drewN 1
    · have HPA : Hid (PCells (wr.alloc (.cells #[.int .u8 60, .string ⟨#[38, 108, 116, 59]⟩] 63)) pb s p ev op) := HPC.out.alloc _
      have HBA : Hid (GrowP pb w (wr.alloc (.cells #[.int .u8 60, .string ⟨#[38, 108, 116, 59]⟩] 63))) := HBY.out.alloc _
      have CH : Hid (∀ W, Calls Tryd.prog 37 #[.string (s.extract p s.size), .string ⟨#[38, 108, 116, 59]⟩] W fun e w' => e = .returned (.bool (hitB s p (escT 1))) ∧ w' = W) := fun W => Tryd.strings_HasPrefix (s.extract p s.size) ⟨#[38, 108, 116, 59]⟩ W
      have CM : Hid (∀ W, Calls Tryd.prog 37 #[.string ⟨#[38, 108, 116, 59]⟩, .string (s.extract p s.size)] W fun e w' => e = .returned (.bool (mayB s p 1)) ∧ w' = W) := fun W => Tryd.strings_HasPrefix ⟨#[38, 108, 116, 59]⟩ (s.extract p s.size) W
      cases hh : hitB s p (escT 1)
      · have HST : Hid (esF s p 4 0 4 = esF s p (4 - (1 + 1)) (1 + 1) (if mayB s p 1 = true then 5 else x)) := HES.out.trans (es_miss hh)
        rw [hh] at CH
        clear hh
        cases hm : mayB s p 1
        · rw [hm] at CM
          have HST2 : Hid (esF s p 4 0 4 = esF s p (4 - (1 + 1)) (1 + 1) x) := by have h := HST.out; rw [if_neg (by rw [hm]; decide)] at h; exact h
          clear hm
          go_wp2_with (first
            | (go_at_call 37; refine (CH.out _).mono ?_; rintro e w2 ⟨rfl, rfl⟩; clear CH)
            | (go_at_call 37; refine (CM.out _).mono ?_; rintro e w2 ⟨rfl, rfl⟩; clear CM))
          go_roundw
          case rel => exact ⟨1 + 1, x, by omega, by go_num, rfl, HST2.out, HX.out, HPA.out, HBA.out⟩
          case measure => simp [intOf]
        · rw [hm] at CM
          have HST2 : Hid (esF s p 4 0 4 = esF s p (4 - (1 + 1)) (1 + 1) 5) := by have h := HST.out; rw [if_pos hm] at h; exact h
          clear hm
          go_wp2_with (first
            | (go_at_call 37; refine (CH.out _).mono ?_; rintro e w2 ⟨rfl, rfl⟩; clear CH)
            | (go_at_call 37; refine (CM.out _).mono ?_; rintro e w2 ⟨rfl, rfl⟩; clear CM))
          go_roundw
          case rel => exact ⟨1 + 1, 5, by omega, by go_num, rfl, HST2.out, .inr rfl, HPA.out, HBA.out⟩
          case measure => simp [intOf]
      · have HST : Hid (esF s p 4 0 4 = (0, 1)) := HES.out.trans (es_hit hh)
        rw [hh] at CH
        clear hh CM
        obtain ⟨y0, y1, y2, y3, y4, y5, y6, y7⟩ := HPC.out
        have hwa : IntKind.i64.wrap ((p : Int) + 4) = (p : Int) + 4 := IntWalk.i64_in _ (by omega)
        go_upto_region 7 with (first
            | (go_at_call 37; refine (CH.out _).mono ?_; rintro e w2 ⟨rfl, rfl⟩; clear CH))
        go_region
        all_goals
          (try go_wp2)
          refine bodyPost_ret (v := .tuple #[.int .u8 60, .int .i64 0]) (by simp [results, Tryd.results48, go_sem]) rfl ⟨by unfold esC esK esE; rw [HST.out]; rfl, ?_, ?_⟩
          · have h := (HPC.out.at (p + 4))
            rw [show ((p + 4 : Nat) : Int) = (p : Int) + 4 by simp] at h
            unfold esTo esE esK
            rw [HST.out]
            exact (h.alloc _).drewN 1
          · exact ((HBY.out.set _ _).alloc _).drewN 1
    · have HPA : Hid (PCells (wr.alloc (.cells #[.int .u8 62, .string ⟨#[38, 103, 116, 59]⟩] 63)) pb s p ev op) := HPC.out.alloc _
      have HBA : Hid (GrowP pb w (wr.alloc (.cells #[.int .u8 62, .string ⟨#[38, 103, 116, 59]⟩] 63))) := HBY.out.alloc _
      have CH : Hid (∀ W, Calls Tryd.prog 37 #[.string (s.extract p s.size), .string ⟨#[38, 103, 116, 59]⟩] W fun e w' => e = .returned (.bool (hitB s p (escT 2))) ∧ w' = W) := fun W => Tryd.strings_HasPrefix (s.extract p s.size) ⟨#[38, 103, 116, 59]⟩ W
      have CM : Hid (∀ W, Calls Tryd.prog 37 #[.string ⟨#[38, 103, 116, 59]⟩, .string (s.extract p s.size)] W fun e w' => e = .returned (.bool (mayB s p 2)) ∧ w' = W) := fun W => Tryd.strings_HasPrefix ⟨#[38, 103, 116, 59]⟩ (s.extract p s.size) W
      cases hh : hitB s p (escT 2)
      · have HST : Hid (esF s p 4 0 4 = esF s p (4 - (2 + 1)) (2 + 1) (if mayB s p 2 = true then 5 else x)) := HES.out.trans (es_miss hh)
        rw [hh] at CH
        clear hh
        cases hm : mayB s p 2
        · rw [hm] at CM
          have HST2 : Hid (esF s p 4 0 4 = esF s p (4 - (2 + 1)) (2 + 1) x) := by have h := HST.out; rw [if_neg (by rw [hm]; decide)] at h; exact h
          clear hm
          go_wp2_with (first
            | (go_at_call 37; refine (CH.out _).mono ?_; rintro e w2 ⟨rfl, rfl⟩; clear CH)
            | (go_at_call 37; refine (CM.out _).mono ?_; rintro e w2 ⟨rfl, rfl⟩; clear CM))
          go_roundw
          case rel => exact ⟨2 + 1, x, by omega, by go_num, rfl, HST2.out, HX.out, HPA.out, HBA.out⟩
          case measure => simp [intOf]
        · rw [hm] at CM
          have HST2 : Hid (esF s p 4 0 4 = esF s p (4 - (2 + 1)) (2 + 1) 5) := by have h := HST.out; rw [if_pos hm] at h; exact h
          clear hm
          go_wp2_with (first
            | (go_at_call 37; refine (CH.out _).mono ?_; rintro e w2 ⟨rfl, rfl⟩; clear CH)
            | (go_at_call 37; refine (CM.out _).mono ?_; rintro e w2 ⟨rfl, rfl⟩; clear CM))
          go_roundw
          case rel => exact ⟨2 + 1, 5, by omega, by go_num, rfl, HST2.out, .inr rfl, HPA.out, HBA.out⟩
          case measure => simp [intOf]
      · have HST : Hid (esF s p 4 0 4 = (0, 2)) := HES.out.trans (es_hit hh)
        rw [hh] at CH
        clear hh CM
        obtain ⟨y0, y1, y2, y3, y4, y5, y6, y7⟩ := HPC.out
        have hwa : IntKind.i64.wrap ((p : Int) + 4) = (p : Int) + 4 := IntWalk.i64_in _ (by omega)
        go_upto_region 7 with (first
            | (go_at_call 37; refine (CH.out _).mono ?_; rintro e w2 ⟨rfl, rfl⟩; clear CH))
        go_region
        all_goals
          (try go_wp2)
          refine bodyPost_ret (v := .tuple #[.int .u8 62, .int .i64 0]) (by simp [results, Tryd.results48, go_sem]) rfl ⟨by unfold esC esK esE; rw [HST.out]; rfl, ?_, ?_⟩
          · have h := (HPC.out.at (p + 4))
            rw [show ((p + 4 : Nat) : Int) = (p : Int) + 4 by simp] at h
            unfold esTo esE esK
            rw [HST.out]
            exact (h.alloc _).drewN 1
          · exact ((HBY.out.set _ _).alloc _).drewN 1
    · have HPA : Hid (PCells (wr.alloc (.cells #[.int .u8 34, .string ⟨#[38, 113, 117, 111, 116, 59]⟩] 63)) pb s p ev op) := HPC.out.alloc _
      have HBA : Hid (GrowP pb w (wr.alloc (.cells #[.int .u8 34, .string ⟨#[38, 113, 117, 111, 116, 59]⟩] 63))) := HBY.out.alloc _
      have CH : Hid (∀ W, Calls Tryd.prog 37 #[.string (s.extract p s.size), .string ⟨#[38, 113, 117, 111, 116, 59]⟩] W fun e w' => e = .returned (.bool (hitB s p (escT 3))) ∧ w' = W) := fun W => Tryd.strings_HasPrefix (s.extract p s.size) ⟨#[38, 113, 117, 111, 116, 59]⟩ W
      have CM : Hid (∀ W, Calls Tryd.prog 37 #[.string ⟨#[38, 113, 117, 111, 116, 59]⟩, .string (s.extract p s.size)] W fun e w' => e = .returned (.bool (mayB s p 3)) ∧ w' = W) := fun W => Tryd.strings_HasPrefix ⟨#[38, 113, 117, 111, 116, 59]⟩ (s.extract p s.size) W
      cases hh : hitB s p (escT 3)
      · have HST : Hid (esF s p 4 0 4 = esF s p (4 - (3 + 1)) (3 + 1) (if mayB s p 3 = true then 5 else x)) := HES.out.trans (es_miss hh)
        rw [hh] at CH
        clear hh
        cases hm : mayB s p 3
        · rw [hm] at CM
          have HST2 : Hid (esF s p 4 0 4 = esF s p (4 - (3 + 1)) (3 + 1) x) := by have h := HST.out; rw [if_neg (by rw [hm]; decide)] at h; exact h
          clear hm
          go_wp2_with (first
            | (go_at_call 37; refine (CH.out _).mono ?_; rintro e w2 ⟨rfl, rfl⟩; clear CH)
            | (go_at_call 37; refine (CM.out _).mono ?_; rintro e w2 ⟨rfl, rfl⟩; clear CM))
          go_roundw
          case rel => exact ⟨3 + 1, x, by omega, by go_num, rfl, HST2.out, HX.out, HPA.out, HBA.out⟩
          case measure => simp [intOf]
        · rw [hm] at CM
          have HST2 : Hid (esF s p 4 0 4 = esF s p (4 - (3 + 1)) (3 + 1) 5) := by have h := HST.out; rw [if_pos hm] at h; exact h
          clear hm
          go_wp2_with (first
            | (go_at_call 37; refine (CH.out _).mono ?_; rintro e w2 ⟨rfl, rfl⟩; clear CH)
            | (go_at_call 37; refine (CM.out _).mono ?_; rintro e w2 ⟨rfl, rfl⟩; clear CM))
          go_roundw
          case rel => exact ⟨3 + 1, 5, by omega, by go_num, rfl, HST2.out, .inr rfl, HPA.out, HBA.out⟩
          case measure => simp [intOf]
      · have HST : Hid (esF s p 4 0 4 = (0, 3)) := HES.out.trans (es_hit hh)
        rw [hh] at CH
        clear hh CM
        obtain ⟨y0, y1, y2, y3, y4, y5, y6, y7⟩ := HPC.out
        have hwa : IntKind.i64.wrap ((p : Int) + 6) = (p : Int) + 6 := IntWalk.i64_in _ (by omega)
        go_upto_region 7 with (first
            | (go_at_call 37; refine (CH.out _).mono ?_; rintro e w2 ⟨rfl, rfl⟩; clear CH))
        go_region
        all_goals
          (try go_wp2)
          refine bodyPost_ret (v := .tuple #[.int .u8 34, .int .i64 0]) (by simp [results, Tryd.results48, go_sem]) rfl ⟨by unfold esC esK esE; rw [HST.out]; rfl, ?_, ?_⟩
          · have h := (HPC.out.at (p + 6))
            rw [show ((p + 6 : Nat) : Int) = (p : Int) + 6 by simp] at h
            unfold esTo esE esK
            rw [HST.out]
            exact (h.alloc _).drewN 1
          · exact ((HBY.out.set _ _).alloc _).drewN 1
    · have HST : Hid (esF s p 4 0 4 = (x, 4)) := HES.out
      have HX0 : Hid (¬ x = 0) := fun e => by rcases HX.out with h | h <;> (rw [h] at e; exact absurd e (by decide))
      go_wp2
      all_goals
        exact bodyPost_ret (v := .tuple #[.int .u8 0, .int .i64 x]) (by simp [results, Tryd.results48, go_sem]) rfl ⟨by unfold esC esE; rw [HST.out, if_neg HX0.out], by unfold esTo esE; rw [HST.out, if_neg HX0.out]; exact HPC.out, HBY.out⟩
end Go.Proofs.YtoifdcipialciaaDoor
