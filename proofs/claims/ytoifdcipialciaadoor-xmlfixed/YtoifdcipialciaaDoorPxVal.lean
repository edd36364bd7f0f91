/-
  CONTRACT of the parser's value: what stands ahead of a byte, with what is escaped as what it means.
-/
import Derived.Test.YtoifdcipialciaaDoorPxEsc
set_option linter.unusedVariables false
namespace Go.Proofs.YtoifdcipialciaaDoor
set_option maxRecDepth 100000
open Go.RowKit

def byteU (s : ByteArray) (k : Nat) : UInt8 := s.data.toList.getD k 0
theorem byteU_eq (s : ByteArray) (k : Nat) (h : k < s.size) : s[k] = byteU s k := by
  unfold byteU
  have h' : k < s.data.size := h
  rw [List.getD_eq_getElem?_getD, List.getElem?_eq_getElem (by simpa using h')]
  rfl
/-- from a place on: what is told, where it ends, and the bytes of the value -/
def vaF (s : ByteArray) (stop : Int) : Nat → Nat → List UInt8 → Int × Nat × List UInt8
  | 0, q, acc => (5, q, acc)
  | k + 1, q, acc =>
    if q < s.size then
      if byteAt s q = stop then (0, q, acc)
      else if byteAt s q = 60 then (4, q, acc)
      else if byteAt s q = 38 then (if esE s q = 0 then vaF s stop k (esTo s q) (acc ++ [tab (esK s q)]) else (esE s q, q, acc))
      else vaF s stop k (q + 1) (acc ++ [byteU s q])
    else (5, q, acc)
def vaR (s : ByteArray) (stop : Int) (p : Nat) : Int × Nat × List UInt8 := vaF s stop (s.size - p) p []
def vaE (s : ByteArray) (stop : Int) (p : Nat) : Int := (vaR s stop p).1
def vaTo (s : ByteArray) (stop : Int) (p : Nat) : Nat := (vaR s stop p).2.1
def vaS (s : ByteArray) (stop : Int) (p : Nat) : ByteArray := if vaE s stop p = 0 then ⟨(vaR s stop p).2.2.toArray⟩ else ⟨#[]⟩
theorem es_le {s : ByteArray} {p : Nat} (hp : p ≤ s.size) (h : esE s p = 0) : p < esTo s p ∧ esTo s p ≤ s.size := by
  have key : ∀ n k x, n + k = 4 → (x = 4 ∨ x = 5) → (esF s p n k x).1 = 0 → hitB s p (escT (esF s p n k x).2) = true := by
    intro n
    induction n with
    | zero => intro k x _ hx h; rcases hx with rfl | rfl <;> simp [esF] at h
    | succ n ih =>
      intro k x hk hx h
      rw [esF] at h ⊢
      by_cases hh : hitB s p (escT k) = true
      · rw [if_pos hh] at h ⊢; exact hh
      · rw [if_neg hh] at h ⊢
        exact ih (k + 1) _ (by omega) (by split <;> simp [hx]) h
  have hh := key 4 0 4 rfl (.inl rfl) h
  have hl := hit_le hp hh
  have hz : 0 < (escT (esF s p 4 0 4).2).size := by
    unfold escT
    repeat' split
    all_goals decide
  unfold esTo
  rw [if_pos h]
  unfold esK
  exact ⟨by omega, hl⟩
theorem EscTab.growP {w w' : World} {pb : Nat} (h : EscTab w) (hg : GrowP pb w w') (hp : pb ≠ 0) : EscTab w' := by
  obtain ⟨t, fr, h⟩ := h
  exact ⟨t, fr, (hg.2.2.2.2 0 (Array.getElem?_eq_some_iff.1 h).1 (fun e => hp e.symm)).trans h⟩
theorem isB_growP {T e : TypeId} {B b pb : Nat} {bs : List Value} {w w' : World} (h : Lib.IsBuilderF T e B b bs w) (hg : GrowP pb w w') (hp : pb < B) : Lib.IsBuilderF T e B b bs w' := by
  have one : ∀ p, Lib.BuilderAtF T e B b p bs w → Lib.BuilderAtF T e B b p bs w' := by
    intro p h
    have hlt := h.lt
    obtain ⟨hB, v, hv, hown, hne⟩ := h
    refine ⟨hB, v, (hg.2.2.2.2 b hlt (by omega)).trans hv, hown.kept (row := some pb) ⟨hg.2.1, hg.2.2.1, hg.2.2.2.1, hg.1, fun k hk hk2 => hg.2.2.2.2 k hk (fun e => hk2 (by rw [e]))⟩ (.inr fun e => ?_), hne⟩
    have := (hown.lt pb e).1
    omega
  exact h.elim (fun x => .inl (one _ x)) (fun x => .inr (one _ x))
theorem PCells.belowB {w w' : World} {B pb : Nat} {s : ByteArray} {p : Nat} {ev op : Value} (h : PCells w pb s p ev op) (hb : Below B w w') (hB : pb < B) (hBw : B ≤ w.heap.size) : PCells w' pb s p ev op := by
  obtain ⟨h0, h1, h2, h3, h4, h5, h6, h7⟩ := h
  exact ⟨(hb.cell (p := ⟨pb, 0, none⟩) hB).trans h0, (hb.cell (p := ⟨pb, 1, none⟩) hB).trans h1, (hb.cell (p := ⟨pb, 2, none⟩) hB).trans h2, (hb.cell (p := ⟨pb, 3, none⟩) hB).trans h3, (hb.frozen (p := ⟨pb, 1, none⟩) hB).trans h4, (hb.frozen (p := ⟨pb, 2, none⟩) hB).trans h5, (hb.frozen (p := ⟨pb, 3, none⟩) hB).trans h6, Nat.lt_of_lt_of_le h7 hb.size⟩
theorem GrowP.belowB {pb : Nat} {w wr w' : World} (h : GrowP pb w wr) (hb : Below w.heap.size wr w') : GrowP pb w w' := ⟨Nat.le_trans h.1 hb.size, hb.os.trans h.2.1, hb.tape.trans h.2.2.1, hb.output.trans h.2.2.2.1, fun b h1 h2 => (hb.block b h1).trans (h.2.2.2.2 b h1 h2)⟩
set_option maxHeartbeats 3200000 in
theorem value_is (pb : Nat) (s : ByteArray) (stop : Int) (p : Nat) (ev op : Value) (w : World) (h : PCells w pb s p ev op) (hp : p ≤ s.size) (hs : s.size ≤ 4000) (ht : EscTab w) (hpb : pb ≠ 0) :
    Calls Tryd.prog 40 #[.pointer (some ⟨pb, 0, none⟩), .int .u8 stop] w fun e w' => e = .returned (.tuple #[.string (vaS s stop p), .int .i64 (vaE s stop p)]) ∧ PCells w' pb s (vaTo s stop p) ev op ∧ GrowP pb w w' := by
  have HP : Hid (PCells w pb s p ev op) := h
  have HT : Hid (EscTab w) := ht
  have h7 := h.2.2.2.2.2.2.2
  clear h ht
  go_enter Tryd.func40, Tryd.ntmps40
  go_wp2
  go_loopg [] (s.size - p) (fun g wr => ∃ (q k : Nat) (acc : List UInt8), p ≤ q ∧ q ≤ s.size ∧ g = s.size - q ∧ s.size - q ≤ k ∧ acc.length ≤ q ∧ vaF s stop k q acc = vaR s stop p ∧ PCells wr pb s q ev op ∧ Lib.IsBuilderF 41 5 w.heap.size w.heap.size (Lib.byteCells acc) wr ∧ GrowP pb w wr)
  case atStart => exact ⟨p, s.size - p, [], Nat.le_refl _, hp, rfl, Nat.le_refl _, Nat.zero_le _, rfl, HP.out.alloc _, Lib.IsBuilderF.of (Lib.fresh_isBuilder 41 5 w), (GrowP.refl _ _).alloc _⟩
  case round =>
    obtain ⟨q, k, acc, hpq, hq, rfl, hk, hac, hva, hpc, hbl, hby⟩ := hrel
    have HVA : Hid (vaF s stop k q acc = vaR s stop p) := hva
    have HPC : Hid (PCells wr pb s q ev op) := hpc
    have HBL : Hid (Lib.IsBuilderF 41 5 w.heap.size w.heap.size (Lib.byteCells acc) wr) := hbl
    have HBY : Hid (GrowP pb w wr) := hby
    have hsz : w.heap.size ≤ wr.heap.size := hby.1
    obtain ⟨h0, h1, h2, h3, h4, h5, h6, h7'⟩ := hpc
    clear hva hbl hby
    by_cases hlt : q < s.size
    · obtain ⟨k', rfl⟩ : ∃ k', k = k' + 1 := ⟨k - 1, by omega⟩
      have hqi : (q : Int) < (s.size : Int) := by omega
      have hbe : (s[q].toNat : Int) = byteAt s q := byteAt_eq s q hlt
      have HBE : Hid ((s[q].toNat : Int) = byteAt s q) := hbe
      have hwq : IntKind.i64.wrap ((q : Int) + 1) = (q : Int) + 1 := IntWalk.i64_in _ (by omega)
      have HU : Hid (vaR s stop p = if byteAt s q = stop then (0, q, acc)
      else if byteAt s q = 60 then (4, q, acc)
      else if byteAt s q = 38 then (if esE s q = 0 then vaF s stop k' (esTo s q) (acc ++ [tab (esK s q)]) else (esE s q, q, acc))
      else vaF s stop k' (q + 1) (acc ++ [byteU s q])) := by
        have h := HVA.out
        rw [vaF, if_pos hlt] at h
        exact h.symm
      clear hbe
      by_cases c1 : byteAt s q = stop
      · have t1 : ((s[q].toNat : Int) == stop) = true := by rw [HBE.out, beq_iff_eq]; exact c1
        have HR : Hid (vaR s stop p = (0, q, acc)) := by have h := HU.out; rw [if_pos c1] at h; exact h
        clear c1 HU
        go_upto_region 2 with fail
        go_quiet (fail)
        obtain ⟨W4, hW4⟩ : ∃ W, W = wr.drewN nq := ⟨_, rfl⟩
        rw [← hW4]
        have HP4 : Hid (PCells W4 pb s q ev op) := by rw [hW4]; exact HPC.out.drewN nq
        have HB4 : Hid (GrowP pb w W4) := by rw [hW4]; exact HBY.out.drewN nq
        have HL4 : Hid (Lib.IsBuilderF 41 5 w.heap.size w.heap.size (Lib.byteCells acc) W4) := by rw [hW4]; exact HBL.out
        have HZ4 : Hid (wr.heap.size ≤ W4.heap.size) := by rw [hW4]; exact Nat.le_refl _
        clear hW4 h0 h1 h2 h3 h4 h5 h6 h7'
        obtain ⟨h0, h1, h2, h3, h4, h5, h6, h7'⟩ := HP4.out
        go_upto_region 3 with fail
        go_quiet (fail)
        obtain ⟨W5, hW5⟩ : ∃ W, W = W4.drewN nq := ⟨_, rfl⟩
        rw [← hW5]
        have HP5 : Hid (PCells W5 pb s q ev op) := by rw [hW5]; exact HP4.out.drewN nq
        have HB5 : Hid (GrowP pb w W5) := by rw [hW5]; exact HB4.out.drewN nq
        have HL5 : Hid (Lib.IsBuilderF 41 5 w.heap.size w.heap.size (Lib.byteCells acc) W5) := by rw [hW5]; exact HL4.out
        have HZ5 : Hid (wr.heap.size ≤ W5.heap.size) := by rw [hW5]; exact HZ4.out
        clear hW5 h0 h1 h2 h3 h4 h5 h6 h7'
        obtain ⟨h0, h1, h2, h3, h4, h5, h6, h7'⟩ := HP5.out
        have CS : Hid (Calls Tryd.prog 14 #[.pointer (some ⟨w.heap.size, 0, none⟩)] W5 fun e w' => e = .returned (.string ⟨acc.toArray⟩) ∧ Below w.heap.size W5 w') := (Tryd.Builder_String_any_k w.heap.size w.heap.size acc W5 HL5.out (Nat.le_trans hsz HZ5.out)).mono fun e w' h => ⟨h.1, h.2.2.1⟩
        go_wp2_with (first | (go_at_call 14; refine CS.out.mono ?_; rintro e w6 ⟨rfl, hb6⟩))
        all_goals (exact bodyPost_ret (v := .tuple #[.string ⟨acc.toArray⟩, .int .i64 0]) (by simp [results, Tryd.results40, go_sem]) rfl ⟨by unfold vaS vaE; rw [HR.out]; rfl, by unfold vaTo; rw [HR.out]; exact HP5.out.belowB hb6 h7 (Nat.le_trans hsz HZ5.out), HB5.out.belowB hb6⟩)
      · have t1 : ((s[q].toNat : Int) == stop) = false := by rw [HBE.out, beq_eq_false_iff_ne]; exact c1
        have HU1 : Hid (vaR s stop p = if byteAt s q = 60 then (4, q, acc)
      else if byteAt s q = 38 then (if esE s q = 0 then vaF s stop k' (esTo s q) (acc ++ [tab (esK s q)]) else (esE s q, q, acc))
      else vaF s stop k' (q + 1) (acc ++ [byteU s q])) := by have h := HU.out; rw [if_neg c1] at h; exact h
        clear c1 HU
        by_cases c2 : byteAt s q = 60
        · have t2 : ((s[q].toNat : Int) == 60) = true := by rw [HBE.out, beq_iff_eq]; exact c2
          have HR : Hid (vaR s stop p = (4, q, acc)) := by have h := HU1.out; rw [if_pos c2] at h; exact h
          clear c2 HU1
          go_upto_region 2 with fail
          go_quiet (fail)
          obtain ⟨W4, hW4⟩ : ∃ W, W = wr.drewN nq := ⟨_, rfl⟩
          rw [← hW4]
          have HP4 : Hid (PCells W4 pb s q ev op) := by rw [hW4]; exact HPC.out.drewN nq
          have HB4 : Hid (GrowP pb w W4) := by rw [hW4]; exact HBY.out.drewN nq
          have HL4 : Hid (Lib.IsBuilderF 41 5 w.heap.size w.heap.size (Lib.byteCells acc) W4) := by rw [hW4]; exact HBL.out
          have HZ4 : Hid (wr.heap.size ≤ W4.heap.size) := by rw [hW4]; exact Nat.le_refl _
          clear hW4 h0 h1 h2 h3 h4 h5 h6 h7'
          obtain ⟨h0, h1, h2, h3, h4, h5, h6, h7'⟩ := HP4.out
          go_upto_region 3 with fail
          go_quiet (fail)
          obtain ⟨W5, hW5⟩ : ∃ W, W = W4.drewN nq := ⟨_, rfl⟩
          rw [← hW5]
          have HP5 : Hid (PCells W5 pb s q ev op) := by rw [hW5]; exact HP4.out.drewN nq
          have HB5 : Hid (GrowP pb w W5) := by rw [hW5]; exact HB4.out.drewN nq
          have HL5 : Hid (Lib.IsBuilderF 41 5 w.heap.size w.heap.size (Lib.byteCells acc) W5) := by rw [hW5]; exact HL4.out
          have HZ5 : Hid (wr.heap.size ≤ W5.heap.size) := by rw [hW5]; exact HZ4.out
          clear hW5 h0 h1 h2 h3 h4 h5 h6 h7'
          obtain ⟨h0, h1, h2, h3, h4, h5, h6, h7'⟩ := HP5.out
          go_wp2
          all_goals (exact bodyPost_ret (v := .tuple #[.string ⟨#[]⟩, .int .i64 4]) (by simp [results, Tryd.results40, go_sem]) rfl ⟨by unfold vaS vaE; rw [HR.out]; rfl, by unfold vaTo; rw [HR.out]; exact HP5.out, HB5.out⟩)
        · have t2 : ((s[q].toNat : Int) == 60) = false := by rw [HBE.out, beq_eq_false_iff_ne]; exact c2
          have HU2 : Hid (vaR s stop p = if byteAt s q = 38 then (if esE s q = 0 then vaF s stop k' (esTo s q) (acc ++ [tab (esK s q)]) else (esE s q, q, acc))
      else vaF s stop k' (q + 1) (acc ++ [byteU s q])) := by have h := HU1.out; rw [if_neg c2] at h; exact h
          clear c2 HU1
          by_cases c3 : byteAt s q = 38
          · have t3 : ((s[q].toNat : Int) == 38) = true := by rw [HBE.out, beq_iff_eq]; exact c3
            have HU3 : Hid (vaR s stop p = if esE s q = 0 then vaF s stop k' (esTo s q) (acc ++ [tab (esK s q)]) else (esE s q, q, acc)) := by have h := HU2.out; rw [if_pos c3] at h; exact h
            clear c3 HU2
            go_upto_region 2 with fail
            go_quiet (fail)
            obtain ⟨W4, hW4⟩ : ∃ W, W = wr.drewN nq := ⟨_, rfl⟩
            rw [← hW4]
            have HP4 : Hid (PCells W4 pb s q ev op) := by rw [hW4]; exact HPC.out.drewN nq
            have HB4 : Hid (GrowP pb w W4) := by rw [hW4]; exact HBY.out.drewN nq
            have HL4 : Hid (Lib.IsBuilderF 41 5 w.heap.size w.heap.size (Lib.byteCells acc) W4) := by rw [hW4]; exact HBL.out
            have HZ4 : Hid (wr.heap.size ≤ W4.heap.size) := by rw [hW4]; exact Nat.le_refl _
            clear hW4 h0 h1 h2 h3 h4 h5 h6 h7'
            obtain ⟨h0, h1, h2, h3, h4, h5, h6, h7'⟩ := HP4.out
            go_upto_region 3 with fail
            go_quiet (fail)
            obtain ⟨W5, hW5⟩ : ∃ W, W = W4.drewN nq := ⟨_, rfl⟩
            rw [← hW5]
            have HP5 : Hid (PCells W5 pb s q ev op) := by rw [hW5]; exact HP4.out.drewN nq
            have HB5 : Hid (GrowP pb w W5) := by rw [hW5]; exact HB4.out.drewN nq
            have HL5 : Hid (Lib.IsBuilderF 41 5 w.heap.size w.heap.size (Lib.byteCells acc) W5) := by rw [hW5]; exact HL4.out
            have HZ5 : Hid (wr.heap.size ≤ W5.heap.size) := by rw [hW5]; exact HZ4.out
            clear hW5 h0 h1 h2 h3 h4 h5 h6 h7'
            obtain ⟨h0, h1, h2, h3, h4, h5, h6, h7'⟩ := HP5.out
            have CE : Hid (Calls Tryd.prog 48 #[.pointer (some ⟨pb, 0, none⟩)] W5 fun e w' => e = .returned (.tuple #[.int .u8 (esC s q), .int .i64 (esE s q)]) ∧ PCells w' pb s (esTo s q) ev op ∧ GrowP pb W5 w') := escaped_is pb s q ev op W5 HP5.out hq hs (HT.out.growP HB5.out hpb)
            by_cases c4 : esE s q = 0
            · have t4 : (esE s q != 0) = false := by rw [c4]; rfl
              have HR : Hid (vaF s stop k' (esTo s q) (acc ++ [tab (esK s q)]) = vaR s stop p) := by have h := HU3.out; rw [if_pos c4] at h; exact h.symm
              have HC : Hid (esC s q = ((tab (esK s q)).toNat : Int)) := if_pos c4
              obtain ⟨l1, l2⟩ := es_le hq c4
              rw [HC.out] at CE
              clear c4 HU3
              go_wp2_with (first
                | (go_at_call 48; refine CE.out.mono ?_; rintro e w6 ⟨rfl, hp6, hb6⟩; have HP6 : Hid (PCells w6 pb s (esTo s q) ev op) := hp6; have HB6 : Hid (GrowP pb w w6) := HB5.out.trans hb6; have HL6 : Hid (Lib.IsBuilderF 41 5 w.heap.size w.heap.size (Lib.byteCells acc) w6) := isB_growP HL5.out hb6 h7; clear hp6 hb6)
                | (go_at_call 36; refine (Tryd.Builder_WriteByte_k w.heap.size w.heap.size (Lib.byteCells acc) _ _ HL6.out (by rw [Lib.byteCells_length]; omega) HB6.out.1).mono ?_; rintro e w7 ⟨rfl, hb1, hb2, _⟩; have HL7 : Hid (Lib.IsBuilderF 41 5 w.heap.size w.heap.size (Lib.byteCells (acc ++ [tab (esK s q)])) w7) := (by rw [Lib.byteCells_append]; exact .inr hb1); have HB7 : Hid (GrowP pb w w7) := HB6.out.belowB hb2; have HP7 : Hid (PCells w7 pb s (esTo s q) ev op) := HP6.out.belowB hb2 h7 HB6.out.1; clear hb1 hb2))
              go_roundg (s.size - esTo s q)
              case rel => exact ⟨esTo s q, k', acc ++ [tab (esK s q)], by omega, l2, rfl, by omega, by rw [List.length_append]; show acc.length + 1 ≤ _; omega, HR.out, HP7.out, HL7.out, HB7.out⟩
              case measure => omega
            · have t4 : (esE s q != 0) = true := by rw [bne_iff_ne]; exact c4
              have HR : Hid (vaR s stop p = (esE s q, q, acc)) := by have h := HU3.out; rw [if_neg c4] at h; exact h
              have HTO : Hid (esTo s q = q) := if_neg c4
              have HNE : Hid (¬ esE s q = 0) := c4
              clear c4 HU3
              go_wp2_with (first
                | (go_at_call 48; refine CE.out.mono ?_; rintro e w6 ⟨rfl, hp6, hb6⟩))
              all_goals (exact bodyPost_ret (v := .tuple #[.string ⟨#[]⟩, .int .i64 (esE s q)]) (by simp [results, Tryd.results40, go_sem]) rfl ⟨by unfold vaS vaE; rw [HR.out, if_neg HNE.out], by unfold vaTo; rw [HR.out]; rw [HTO.out] at hp6; exact hp6, HB5.out.trans hb6⟩)
          · have t3 : ((s[q].toNat : Int) == 38) = false := by rw [HBE.out, beq_eq_false_iff_ne]; exact c3
            have HR : Hid (vaF s stop k' (q + 1) (acc ++ [byteU s q]) = vaR s stop p) := by have h := HU2.out; rw [if_neg c3] at h; exact h.symm
            clear c3 HU2
            go_upto_region 2 with fail
            go_quiet (fail)
            obtain ⟨W4, hW4⟩ : ∃ W, W = wr.drewN nq := ⟨_, rfl⟩
            rw [← hW4]
            have HP4 : Hid (PCells W4 pb s q ev op) := by rw [hW4]; exact HPC.out.drewN nq
            have HB4 : Hid (GrowP pb w W4) := by rw [hW4]; exact HBY.out.drewN nq
            have HL4 : Hid (Lib.IsBuilderF 41 5 w.heap.size w.heap.size (Lib.byteCells acc) W4) := by rw [hW4]; exact HBL.out
            have HZ4 : Hid (wr.heap.size ≤ W4.heap.size) := by rw [hW4]; exact Nat.le_refl _
            clear hW4 h0 h1 h2 h3 h4 h5 h6 h7'
            obtain ⟨h0, h1, h2, h3, h4, h5, h6, h7'⟩ := HP4.out
            go_upto_region 3 with fail
            go_quiet (fail)
            obtain ⟨W5, hW5⟩ : ∃ W, W = W4.drewN nq := ⟨_, rfl⟩
            rw [← hW5]
            have HP5 : Hid (PCells W5 pb s q ev op) := by rw [hW5]; exact HP4.out.drewN nq
            have HB5 : Hid (GrowP pb w W5) := by rw [hW5]; exact HB4.out.drewN nq
            have HL5 : Hid (Lib.IsBuilderF 41 5 w.heap.size w.heap.size (Lib.byteCells acc) W5) := by rw [hW5]; exact HL4.out
            have HZ5 : Hid (wr.heap.size ≤ W5.heap.size) := by rw [hW5]; exact HZ4.out
            clear hW5 h0 h1 h2 h3 h4 h5 h6 h7'
            obtain ⟨h0, h1, h2, h3, h4, h5, h6, h7'⟩ := HP5.out
            go_wp2_with (first
              | (go_at_call 36; refine (Tryd.Builder_WriteByte_k w.heap.size w.heap.size (Lib.byteCells acc) _ _ HL5.out (by rw [Lib.byteCells_length]; omega) (Nat.le_trans hsz HZ5.out)).mono ?_; rintro e w7 ⟨rfl, hb1, hb2, _⟩; have HL7 : Hid (Lib.IsBuilderF 41 5 w.heap.size w.heap.size (Lib.byteCells (acc ++ [byteU s q])) w7) := (by rw [Lib.byteCells_append, ← byteU_eq s q hlt]; exact .inr hb1); have HB7 : Hid (GrowP pb w w7) := HB5.out.belowB hb2; have hp7 := HP5.out.belowB hb2 h7 (Nat.le_trans hsz HZ5.out); have HP7 : Hid (PCells w7 pb s q ev op) := hp7; obtain ⟨y0, y1, y2, y3, y4, y5, y6, y7⟩ := hp7; clear hb1 hb2))
            go_roundg (s.size - (q + 1))
            case rel => exact ⟨q + 1, k', acc ++ [byteU s q], by omega, by omega, rfl, by omega, by rw [List.length_append]; show acc.length + 1 ≤ _; omega, HR.out, by have h := HP7.out.at (q + 1); rw [show ((q + 1 : Nat) : Int) = (q : Int) + 1 by simp] at h; exact h, isB_growP HL7.out ((GrowP.refl _ _).set _ _) h7, HB7.out.set _ _⟩
            case measure => omega
    · have hqi : ¬ (q : Int) < (s.size : Int) := by omega
      have HR : Hid (vaR s stop p = (5, q, acc)) := by
        have h : vaR s stop p = (5, q, acc) := by
          rw [← HVA.out]
          cases k with
          | zero => rfl
          | succ k => rw [vaF, if_neg hlt]
        exact h
      clear hlt
      go_upto_region 2 with fail
      go_quiet (fail)
      go_wp2
      all_goals (exact bodyPost_ret (v := .tuple #[.string ⟨#[]⟩, .int .i64 5]) (by simp [results, Tryd.results40, go_sem]) rfl ⟨by unfold vaS vaE; rw [HR.out]; rfl, by unfold vaTo; rw [HR.out]; exact HPC.out.drewN _, HBY.out.drewN _⟩)
end Go.Proofs.YtoifdcipialciaaDoor
