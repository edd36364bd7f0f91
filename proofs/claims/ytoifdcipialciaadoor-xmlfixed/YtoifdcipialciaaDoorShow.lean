/-
  CONTRACTS of xml.endOf and xml.Show.
-/
import Derived.Test.YtoifdcipialciaaDoorEvOpen
import Derived.Test.YtoifdcipialciaaDoorShowPlain
import Derived.Deep.RegionWith
import Derived.Deep.Cut
import Derived.Deep.CutRange
import Derived.Deep.CutBlock
set_option linter.unusedVariables false
namespace Go.Proofs.YtoifdcipialciaaDoor
open Go.RowKit

/-- what an End writes -/
def endS (k : Int) (name : ByteArray) : ByteArray := if inTagB k = true then ⟨#[47, 62]⟩ else ⟨#[60, 47]⟩ ++ name ++ ⟨#[62]⟩
theorem ret_str {a b : ByteArray} (h : a = b) : Ending.returned (.string a) = .returned (.string b) := by rw [h]
set_option maxHeartbeats 400000 in
theorem endOf_any (k : Int) (n v name : ByteArray) (w : World) (hs : name.size ≤ 1000) :
    Calls Tryd.prog 12 #[.agg #[.int .i64 k, .string n, .string v], .string name] w fun e w' => e = .returned (.string (endS k name)) ∧ Below w.heap.size w w' := by
  cases hk : inTagB k
  · have HE : Hid (endS k name = ⟨#[60, 47]⟩ ++ name ++ ⟨#[62]⟩) := by
      have e : endS k name = ⟨#[60, 47]⟩ ++ name ++ ⟨#[62]⟩ := by simp [endS, hk]
      exact e
    go_enter Tryd.func12, Tryd.ntmps12
    go_wp2_with (first | (go_at_call 13; refine (inTag_any _ _ _ _).mono ?_; rintro e w1 ⟨rfl, hb⟩))
    go_ret
    exact ⟨ret_str HE.out.symm, ((Below.refl _ _).alloc (Nat.le_refl _) _).trans (hb.mono (by simp))⟩
  · have HE : Hid (endS k name = ⟨#[47, 62]⟩) := by
      have e : endS k name = ⟨#[47, 62]⟩ := by simp [endS, hk]
      exact e
    go_enter Tryd.func12, Tryd.ntmps12
    go_wp2_with (first | (go_at_call 13; refine (inTag_any _ _ _ _).mono ?_; rintro e w1 ⟨rfl, hb⟩))
    go_ret
    exact ⟨ret_str HE.out.symm, ((Below.refl _ _).alloc (Nat.le_refl _) _).trans (hb.mono (by simp))⟩
theorem endS_list (k : Int) (name : ByteArray) : (endS k name).data.toList = if inTagB k = true then [47, 62] else [60, 47] ++ name.data.toList ++ [62] := by
  unfold endS
  split
  · rfl
  · rw [data_app, data_app]
theorem writeString_any (B b : Nat) (T : List UInt8) (s : ByteArray) (W : World) (h : Lib.IsBuilderF 41 5 B b (Lib.byteCells T) W) (hl : T.length + s.size ≤ 140737488355328) (hB : B ≤ W.heap.size) :
    Calls Tryd.prog 10 #[.pointer (some ⟨b, 0, none⟩), .string s] W fun e w' => e = .returned (.tuple #[.int .i64 s.size, .nilIface]) ∧ Lib.IsBuilderF 41 5 B b (Lib.byteCells (T ++ s.data.toList)) w' ∧ Below B W w' ∧ Lib.OthersKept 5 (some b) W w' := by
  refine (Tryd.Builder_WriteString_k B b (Lib.byteCells T) s W h (by rw [Lib.byteCells_length]; exact hl) hB).mono ?_
  rintro e w' ⟨rfl, h1, h2, h3⟩
  refine ⟨rfl, .inr ?_, h2, h3⟩
  rw [Lib.byteCells_append, ← Lib.strCells_eq]
  exact h1
theorem builder_heap {w w0 : World} {B b : Nat} {bs : List Value} (h : Lib.IsBuilderF 41 5 B b bs w0) (e : w.heap = w0.heap) : Lib.IsBuilderF 41 5 B b bs w := by
  unfold Lib.IsBuilderF Lib.BuilderAtF World.ownsRowF at h ⊢
  rw [e]
  exact h
theorem names_heap {w w0 : World} {B : Nat} {v : Value} {l : List ByteArray} (h : NamesIs w0 B v l) (e : w.heap = w0.heap) : NamesIs w B v l := by
  unfold NamesIs World.ownsRow at h ⊢
  rw [e]
  exact h
theorem box_heap {w w0 : World} {xb : Nat} {x : Ev} (h : BoxIs w0 xb x) (e : w.heap = w0.heap) : BoxIs w xb x := by
  unfold BoxIs at h ⊢
  rw [e]
  exact h
theorem below_heap {B : Nat} {a w w0 : World} (h : Below B a w0) (e : w.heap = w0.heap) (e1 : w.os = w0.os) (e2 : w.tape = w0.tape) (e3 : w.output = w0.output) : Below B a w :=
  ⟨e1.trans h.os, e2.trans h.tape, e3.trans h.output, by rw [e]; exact h.size, fun k hk => by rw [e]; exact h.block k hk⟩
theorem Tryd.info9 : (Tryd.prog.info? 9).map (fun i => (i.zero, i.size, i.bytes)) = some (some (.string ByteArray.empty), 1, 16) := by kernel_rfl
theorem below_chain {B : Nat} {a b c : World} (h1 : Below B a b) (h2 : Below b.heap.size b c) (hB : B ≤ b.heap.size) : Below B a c := h1.trans (h2.mono hB)
theorem size_app (a b : ByteArray) : (a ++ b).size = a.size + b.size := by
  show (a ++ b).data.size = _
  rw [ByteArray.data_append, Array.size_append]; rfl

set_option maxHeartbeats 800000 in
theorem show_refused (b off n cap : Nat) (E : Nat → Ev) (w : World) (hcap : n ≤ cap) (hm : cap ≤ Go.maxLen) (henv : Env w) (hb0 : b < w.heap.size) (hE : EvsAt w b off n E)
    (hsz : ∀ i, i < n → (E i).name.size ≤ Go.maxLen ∧ (E i).value.size ≤ Go.maxLen) (hc : ¬ checkN E n = 0) :
    Calls Tryd.prog 6 #[.slice (some ⟨b, off, none⟩) n cap] w fun e w' => e = .returned (.tuple #[.string ⟨#[]⟩, .int .i64 (checkN E n)]) ∧ Below w.heap.size w w' := by
  have CC : Hid (Calls Tryd.prog 9 #[.slice (some ⟨b, off, none⟩) n cap] w fun e w' => e = .returned (.int .i64 (checkN E n)) ∧ Below w.heap.size w w') := check_any b off n cap E w hcap hm henv hb0 hE hsz
  have hne : (checkN E n != 0) = true := by simpa using hc
  clear hE hsz henv hc
  go_enter Tryd.func6, Tryd.ntmps6
  go_wp2_with (first | (go_at_call 9; refine CC.out.mono ?_; rintro e w1 ⟨rfl, hb⟩))
  go_ret2
  exact ⟨rfl, hb⟩

set_option maxHeartbeats 16000000 in
set_option maxRecDepth 100000 in
theorem show_some (b off n cap : Nat) (E : Nat → Ev) (w : World) (hn : n ≤ 400) (hcap : n ≤ cap) (hm : cap ≤ Go.maxLen) (henv : Env w) (htab : EscTab w) (hb0 : b < w.heap.size) (hE : EvsAt w b off n E)
    (hsz : ∀ i, i < n → (E i).name.size ≤ Go.maxLen ∧ (E i).value.size ≤ Go.maxLen) (hc : checkN E n = 0) (hok : okTo E n) (hdz : (stAt E n).d = 0) (hn0 : 0 < n) :
    Calls Tryd.prog 6 #[.slice (some ⟨b, off, none⟩) n cap] w fun e w' => e = .returned (.tuple #[.string ⟨(showR E n).toArray⟩, .int .i64 0]) ∧ Below w.heap.size w w' := by
  have CC : Hid (Calls Tryd.prog 9 #[.slice (some ⟨b, off, none⟩) n cap] w fun e w' => e = .returned (.int .i64 0) ∧ Below w.heap.size w w') := by
    have h := check_any b off n cap E w hcap hm henv hb0 hE hsz
    rw [hc] at h
    exact h
  have HE : Hid (EvsAt w b off n E) := hE
  have HT : Hid (EscTab w) := htab
  have HOK : Hid (okTo E n) := hok
  have HDZ : Hid ((stAt E n).d = 0) := hdz
  have h2 : 0 < w.heap.size := by have := henv.big; omega
  clear hE hsz henv hc hok hdz htab
  go_enter Tryd.func6, Tryd.ntmps6
  go_wp2_with (first | (go_at_call 9; refine CC.out.mono ?_; rintro e w1 ⟨rfl, hb⟩))
  have HB1 : Hid (Below w.heap.size w w1) := hb
  have hz1 : w.heap.size ≤ w1.heap.size := hb.size
  clear hb CC
  go_loopw [6, 17] (fun o i wr => ∃ k : Nat, k ≤ n ∧ i = .int .i64 k ∧ NamesIs wr w.heap.size o (names E k) ∧ Lib.IsBuilderF 41 5 w.heap.size w1.heap.size (Lib.byteCells (showR E k ++ gt E k)) wr ∧ Below w.heap.size w wr ∧ w1.heap.size ≤ wr.heap.size) (fun _ i _ => n - (intOf i).toNat)
  case atStart =>
    refine ⟨0, Nat.zero_le _, rfl, World.ownsRow_nil _ _ _ _, ?_, HB1.out.alloc hz1 _, by simp⟩
    refine Lib.IsBuilderF.of (.inl ⟨hz1, .slice none 0 0, heap_alloc_new _ _, World.ownsRow_nil _ _ _ _, by simp [Value.ownBlock]⟩)
  case round =>
    obtain ⟨k, hk, rfl, hnm, hbl, hbr, hzw⟩ := hrel
    obtain ⟨a, cp, rfl⟩ := hnm.shape
    have HNM : Hid (NamesIs wr w.heap.size (.slice a (names E k).length cp) (names E k)) := hnm
    have HBL : Hid (Lib.IsBuilderF 41 5 w.heap.size w1.heap.size (Lib.byteCells (showR E k ++ gt E k)) wr) := hbl
    have HBR : Hid (Below w.heap.size w wr) := hbr
    have hzr : w.heap.size ≤ wr.heap.size := hbr.size
    have hdk : (names E k).length ≤ k := by rw [names_len]; exact d_inv k
    generalize hdd : (names E k).length = d at *
    have HL : Hid ((names E k).length = d) := hdd
    generalize hbB : w1.heap.size = bB at *
    by_cases hlt : k < n
    · obtain ⟨e1, e2, e3⟩ := HE.out.below hbr hb0 k hlt
      have HK0 : Hid (errAt E k = 0) := HOK.out k hlt
      have HTL : Hid ((showR E k ++ gt E k).length ≤ 52000001) := by
        have e : (showR E k ++ gt E k).length ≤ 52000001 := by
          have := show_len (E := E) (k := k) (fun j hj => HOK.out j (by omega))
          have := gt_len E k
          rw [List.length_append]; omega
        exact e
      have hvz : (E k).value.size ≤ 20000 := value_small HK0.out
      have hbz : b < wr.heap.size := by omega
      have CES : Hid (∀ W, Below w.heap.size w W → Calls Tryd.prog 11 #[.string (E k).value] W fun e w' => e = .returned (.string ⟨(escL (E k).value.data.toList).toArray⟩) ∧ Below W.heap.size W w') :=
        fun W hb => escape_any (E k).value W (by omega) (HT.out.below hb h2) (Nat.lt_of_lt_of_le h2 hb.size)
      have HSH : Hid (showR E (k + 1) = (showR E k ++ gt E k) ++ body E k) := by
        have e : showR E (k + 1) = (showR E k ++ gt E k) ++ body E k := by rw [List.append_assoc]; rfl
        exact e
      have hkk : (E k).kind = 1 ∨ (E k).kind = 2 ∨ (E k).kind = 3 ∨ (E k).kind = 4 ∨ (E k).kind = 5 := by have := (err_zero HK0.out).1; omega
      have HSN : Hid ((E k).kind ≠ 5 → k + 1 < n) := fun h => by
        by_cases c : k + 1 < n
        · exact c
        · have e : n = k + 1 := by omega
          exact absurd (last_end (n := k) (e ▸ HOK.out) (e ▸ HDZ.out)) h
      generalize showR E k ++ gt E k = T at *
      clear hnm hbl hbr hdd hbB
      rcases hkk with hk1 | hk1 | hk1 | hk1 | hk1
      · have HK1 : Hid ((E k).kind = 1) := hk1
        rw [hk1] at e1
        have HBX : Hid (BoxIs (wr.alloc (.cells #[Value.int .i64 1, .string (E k).name, .string (E k).value] 31)) wr.heap.size ⟨1, (E k).name, (E k).value⟩) := BoxIs.made wr ⟨1, (E k).name, (E k).value⟩
        have HBA : Hid (Below w.heap.size w (wr.alloc (.cells #[Value.int .i64 1, .string (E k).name, .string (E k).value] 31))) := HBR.out.alloc hzr _
        clear hk1
        have hsn : k + 1 < n := HSN.out (by rw [HK1.out]; decide)
        have hsi : (k : Int) + 1 < (n : Int) := by omega
        have hnz : (E k).name.size ≤ 20 := name_small HK0.out (.inl HK1.out)
        have HOWN : Hid (wr.ownsRow w.heap.size 9 1 (.slice a d cp) d ((names E k).map Value.string)) := by
          have h := HNM.out
          unfold NamesIs at h
          rw [HL.out] at h
          exact h
        obtain ⟨i0, hi0, hz0, hz1', hz2'⟩ := info_parts Tryd.info9
        go_wp2_with (first | (at_builtin; refine wpList_append_own _ rfl _ _ 33 rfl w.heap.size 9 i0 _ 1 16 Tryd.underlying33 hi0 hz0 hz1' hz2' rfl (by decide) _ _ _ rfl ((HOWN.out.alloc _).alloc _) ⟨wr.heap.size + 1, 0, none⟩ 1 1 [.string (E k).name] rfl rfl ?c1 ?c2 ?c3 ?c4 ?c5 ?_))
        case c1 =>
          intro j u hj
          match j, hj with
          | 0, hj => simp at hj; subst hj; simp [Addr.add]
        case c2 => first | rfl | (intro u hu; simp at hu; subst hu; rfl)
        case c3 => unfold maxLen; omega
        case c4 => omega
        case c5 => simp; omega
        intro v' w2 hown' hgrow _
        have HU2 : Hid (Lib.IsBuilderF 41 5 w.heap.size bB (Lib.byteCells T) w2) := builder_grown ((HBL.out.alloc _).alloc _) ((HNM.out.alloc _).alloc _) hgrow
        have HN2 : Hid (NamesIs w2 w.heap.size v' (names E (k + 1))) := by
          rw [names_push HK1.out]
          exact NamesIs.pushed HL.out hown'
        have HX2 : Hid (BoxIs w2 wr.heap.size ⟨1, (E k).name, (E k).value⟩) := BoxIs.grown (HBX.out.alloc _) ((HNM.out.alloc _).alloc _) hgrow
        have HL2 : Hid (Below w.heap.size w w2) := (HBA.out.alloc (by simp; omega) _).grown hgrow (by simp; omega) (fun q hq => (HOWN.out.lt q hq).1)
        have hz2 : w.heap.size ≤ w2.heap.size := HL2.out.size
        have hzz : wr.heap.size < w2.heap.size := by have := hgrow.size; simp at this; omega
        obtain ⟨y0, y1, y2⟩ := HX2.out.cells
        clear hown' hgrow e1 e2 e3 CES
        have CWS : Hid (Calls Tryd.prog 10 #[.pointer (some ⟨bB, 0, none⟩), .string (⟨#[60]⟩ ++ (E k).name)] w2 fun e w' => e = .returned (.tuple #[.int .i64 (⟨#[60]⟩ ++ (E k).name : ByteArray).size, .nilIface]) ∧ Lib.IsBuilderF 41 5 w.heap.size bB (Lib.byteCells (T ++ ([60] ++ (E k).name.data.toList))) w' ∧ Below w.heap.size w2 w' ∧ Lib.OthersKept 5 (some bB) w2 w') := by
          have h := writeString_any w.heap.size bB T (⟨#[60]⟩ ++ (E k).name) w2 HU2.out (by have h6 := HTL.out; rw [size_app]; show T.length + (1 + (E k).name.size) ≤ _; omega) hz2
          rw [data_app] at h
          exact h
        go_wp2_with (first | (go_at_call 10; refine CWS.out.mono ?_; rintro e w3 ⟨rfl, hb3, hl3, ho3⟩; obtain ⟨x0, x1, x2⟩ := BoxIs.cells (HX2.out.others HU2.out ho3)))
        have HU3 : Hid (Lib.IsBuilderF 41 5 w.heap.size bB (Lib.byteCells (T ++ ([60] ++ (E k).name.data.toList))) w3) := hb3
        have HN3 : Hid (NamesIs w3 w.heap.size v' (names E (k + 1))) := HN2.out.others HU2.out ho3
        have HL3 : Hid (Below w.heap.size w w3) := HL2.out.trans hl3
        have hz3 : w2.heap.size ≤ w3.heap.size := hl3.size
        clear hb3 hl3 ho3 CWS y0 y1 y2
        obtain ⟨z0, z1, z2⟩ := HE.out.below HL3.out hb0 (k + 1) hsn
        have hbz3 : b < w3.heap.size := by omega
        have hin : inTagB 1 = true := by decide
        have HSR : Hid (showR E (k + 1) = T ++ ([60] ++ (E k).name.data.toList)) := by
          have e : showR E (k + 1) = T ++ ([60] ++ (E k).name.data.toList) := by
            rw [HSH.out]
            simp [body, HK1.out]
          exact e
        cases hA : ((E (k + 1)).kind != 2)
        · skip
          have HG1 : Hid (showR E (k + 1) ++ gt E (k + 1) = T ++ ([60] ++ (E k).name.data.toList)) := by
            have e : showR E (k + 1) ++ gt E (k + 1) = T ++ ([60] ++ (E k).name.data.toList) := by
              have g : gt E (k + 1) = [] := by
                have q : (E (k + 1)).kind = 2 := by simpa using hA
                simp [gt, gtB, q]
              rw [g, List.append_nil, HSR.out]
            exact e
          go_wp2_with (first | (go_at_call 13; refine (inTag_any _ _ _ _).mono ?_; rintro e w9 ⟨rfl, hb9⟩; obtain ⟨hc9, hf9⟩ := bcell hb9))
          go_roundw
          case rel => exact ⟨k + 1, by omega, by go_num, HN3.out.below hb9, by rw [HG1.out]; exact builder_below HU3.out hb9, below_chain HL3.out hb9 HL3.out.size, by have := hb9.size; omega⟩
          case measure => simp [intOf]; omega
        · cases hB : ((E (k + 1)).kind != 5)
          · skip
            have HG1 : Hid (showR E (k + 1) ++ gt E (k + 1) = T ++ ([60] ++ (E k).name.data.toList)) := by
              have e : showR E (k + 1) ++ gt E (k + 1) = T ++ ([60] ++ (E k).name.data.toList) := by
                have g : gt E (k + 1) = [] := by
                  have q : (E (k + 1)).kind = 5 := by simpa using hB
                  simp [gt, gtB, q]
                rw [g, List.append_nil, HSR.out]
              exact e
            go_wp2_with (first | (go_at_call 13; refine (inTag_any _ _ _ _).mono ?_; rintro e w9 ⟨rfl, hb9⟩; obtain ⟨hc9, hf9⟩ := bcell hb9))
            go_roundw
            case rel => exact ⟨k + 1, by omega, by go_num, HN3.out.below hb9, by rw [HG1.out]; exact builder_below HU3.out hb9, below_chain HL3.out hb9 HL3.out.size, by have := hb9.size; omega⟩
            case measure => simp [intOf]; omega
          · have HG1 : Hid (showR E (k + 1) ++ gt E (k + 1) = T ++ ([60] ++ (E k).name.data.toList) ++ [62]) := by
              have e : showR E (k + 1) ++ gt E (k + 1) = T ++ ([60] ++ (E k).name.data.toList) ++ [62] := by
                have g : gt E (k + 1) = [62] := by
                  have q1 : (E (k + 1)).kind ≠ 2 := by simpa using hA
                  have q2 : (E (k + 1)).kind ≠ 5 := by simpa using hB
                  simp [gt, gtB, q1, q2, HK1.out, hin]
                rw [g, HSR.out]
              exact e
            go_wp2_with (first | (go_at_call 13; refine (inTag_any _ _ _ _).mono ?_; rintro e w9 ⟨rfl, hb9⟩; obtain ⟨hc9, hf9⟩ := bcell hb9))
            have HL9 : Hid (Below w.heap.size w w9) := below_chain HL3.out hb9 HL3.out.size
            have HN9 : Hid (NamesIs w9 w.heap.size v' (names E (k + 1))) := HN3.out.below hb9
            have hz9 : w3.heap.size ≤ w9.heap.size := hb9.size
            have HU9 : Hid (Lib.IsBuilderF 41 5 w.heap.size bB (Lib.byteCells (T ++ ([60] ++ (E k).name.data.toList))) w9) := builder_below HU3.out hb9
            have HLB : Hid (([60] ++ (E k).name.data.toList).length ≤ 120100) := by
                have e : ([60] ++ (E k).name.data.toList).length ≤ 120100 := by
                  have h8 : (E k).name.data.toList.length = (E k).name.size := rfl
                  simp only [List.length_append, List.length_cons, List.length_nil]; omega
                exact e
            clear hb9 hc9 hf9
            go_wp2_with (first | (go_at_call 10; refine (writeString_any w.heap.size bB (T ++ ([60] ++ (E k).name.data.toList)) _ _ HU9.out (by have h6 := HTL.out; have h5 := HLB.out; rw [List.length_append]; show T.length + ([60] ++ (E k).name.data.toList).length + 1 ≤ _; omega) (by omega)).mono ?_; rintro e w4 ⟨rfl, hb4, hl4, ho4⟩))
            go_roundw
            case rel => exact ⟨k + 1, by omega, by go_num, HN9.out.others HU9.out ho4, by rw [HG1.out]; exact hb4, HL9.out.trans hl4, by have := hl4.size; omega⟩
            case measure => simp [intOf]; omega
      · have HK1 : Hid ((E k).kind = 2) := hk1
        rw [hk1] at e1
        have HBX : Hid (BoxIs (wr.alloc (.cells #[Value.int .i64 2, .string (E k).name, .string (E k).value] 31)) wr.heap.size ⟨2, (E k).name, (E k).value⟩) := BoxIs.made wr ⟨2, (E k).name, (E k).value⟩
        have HBA : Hid (Below w.heap.size w (wr.alloc (.cells #[Value.int .i64 2, .string (E k).name, .string (E k).value] 31))) := HBR.out.alloc hzr _
        clear hk1
        have hsn : k + 1 < n := HSN.out (by rw [HK1.out]; decide)
        have hsi : (k : Int) + 1 < (n : Int) := by omega
        have hnz : (E k).name.size ≤ 20 := name_small HK0.out (.inr HK1.out)
        have HLA : Hid (Lib.IsBuilderF 41 5 w.heap.size bB (Lib.byteCells T) (wr.alloc (.cells #[Value.int .i64 2, .string (E k).name, .string (E k).value] 31))) := HBL.out.alloc _
        have HNA : Hid (NamesIs (wr.alloc (.cells #[Value.int .i64 2, .string (E k).name, .string (E k).value] 31)) w.heap.size (.slice a d cp) (names E k)) := HNM.out.alloc _
        have HEL : Hid ((escL (E k).value.data.toList).length ≤ 120000) := by
          have e : (escL (E k).value.data.toList).length ≤ 120000 := by
            have h9 := escL_len (E k).value.data.toList
            have h8 : (E k).value.data.toList.length = (E k).value.size := rfl
            omega
          exact e
        have CE2 : Hid (∀ W, Below w.heap.size w W → Calls Tryd.prog 11 #[.string (E k).value] W fun e w' => ∃ s2 : ByteArray, e = .returned (.string s2) ∧ s2.size ≤ 120000 ∧ Hid (s2.data.toList = escL (E k).value.data.toList) ∧ Below W.heap.size W w') :=
          fun W hb => (CES.out W hb).mono fun e w' h => ⟨_, h.1, HEL.out, rfl, h.2⟩
        have HUW : Hid (∀ W, Below (wr.alloc (.cells #[Value.int .i64 2, .string (E k).name, .string (E k).value] 31)).drew.heap.size (wr.alloc (.cells #[Value.int .i64 2, .string (E k).name, .string (E k).value] 31)).drew W → Hid (Lib.IsBuilderF 41 5 w.heap.size bB (Lib.byteCells T) W ∧ NamesIs W w.heap.size (.slice a d cp) (names E k) ∧ BoxIs W wr.heap.size ⟨2, (E k).name, (E k).value⟩ ∧ Below w.heap.size w W ∧ wr.heap.size < W.heap.size) ∧ w.heap.size ≤ W.heap.size) := by
          intro W hb
          have hb1 : Below (wr.alloc (.cells #[Value.int .i64 2, .string (E k).name, .string (E k).value] 31)).heap.size (wr.alloc (.cells #[Value.int .i64 2, .string (E k).name, .string (E k).value] 31)) W := ⟨hb.os, hb.tape, hb.output, hb.size, hb.block⟩
          have hl := below_chain HBA.out hb1 (by simp; omega)
          exact ⟨⟨builder_below HLA.out hb1, HNA.out.below hb1, HBX.out.below hb1, hl, by have := hb1.size; simp at this; omega⟩, hl.size⟩
        go_upto_block 2 with fail
        go_cut [6] from 18 to 100 (fun o wx => o = .slice a d cp ∧ NamesIs wx w.heap.size (.slice a d cp) (names E k) ∧ Lib.IsBuilderF 41 5 w.heap.size bB (Lib.byteCells (T ++ ([32] ++ (E k).name.data.toList ++ [61, 34] ++ escL (E k).value.data.toList ++ [34]))) wx ∧ BoxIs wx wr.heap.size ⟨2, (E k).name, (E k).value⟩ ∧ Below w.heap.size w wx ∧ wr.heap.size < wx.heap.size)
        case first =>
          go_wp2
          go_region_with (first | (go_at_call 11; refine (CE2.out _ (by repeat (first | exact HBA.out | apply Below.drew))).mono ?_; rintro e w2 ⟨s2, rfl, hs2, HS2, hb2⟩; obtain ⟨hc2, hf2⟩ := bcell hb2; obtain ⟨H2, hz2⟩ := HUW.out w2 hb2) | (go_at_call 10; go_must (refine (writeString_any w.heap.size bB T _ _ H2.out.1 (by have h6 := HTL.out; rw [size_app, size_app, size_app, size_app]; show T.length + (1 + (E k).name.size + 2 + s2.size + 1) ≤ _; omega) hz2).mono ?_; rintro e w3 ⟨rfl, hb3, hl3, ho3⟩)))
          all_goals (go_wp2_with fail; go_meet; exact ⟨rfl, H2.out.2.1.others H2.out.1 ho3, (by have h9 := hb3; rw [data_app, data_app, data_app, data_app, HS2.out] at h9; exact h9), H2.out.2.2.1.others H2.out.1 ho3, H2.out.2.2.2.1.trans hl3, Nat.lt_of_lt_of_le H2.out.2.2.2.2 hl3.size⟩)
        case rest =>
          obtain ⟨rfl, hn3, hb3, hx3, hl3, hzz⟩ := hcut
          obtain ⟨x0, x1, x2⟩ := hx3.cells
          have HU3 : Hid (Lib.IsBuilderF 41 5 w.heap.size bB (Lib.byteCells (T ++ ([32] ++ (E k).name.data.toList ++ [61, 34] ++ escL (E k).value.data.toList ++ [34]))) wc) := hb3
          have HN3 : Hid (NamesIs wc w.heap.size (.slice a d cp) (names E (k + 1))) := by
            rw [names_keep (by rw [HK1.out]; decide) (by rw [HK1.out]; decide)]
            exact hn3
          have HL3 : Hid (Below w.heap.size w wc) := hl3
          clear hn3 hb3 hx3 hl3 e1 e2 e3 CES
          obtain ⟨z0, z1, z2⟩ := HE.out.below HL3.out hb0 (k + 1) hsn
          have hbz3 : b < wc.heap.size := by omega
          have hin : inTagB 2 = true := by decide
          have HSR : Hid (showR E (k + 1) = T ++ ([32] ++ (E k).name.data.toList ++ [61, 34] ++ escL (E k).value.data.toList ++ [34])) := by
            have e : showR E (k + 1) = T ++ ([32] ++ (E k).name.data.toList ++ [61, 34] ++ escL (E k).value.data.toList ++ [34]) := by
              rw [HSH.out]
              simp [body, HK1.out]
            exact e
          cases hA : ((E (k + 1)).kind != 2)
          · skip
            have HG1 : Hid (showR E (k + 1) ++ gt E (k + 1) = T ++ ([32] ++ (E k).name.data.toList ++ [61, 34] ++ escL (E k).value.data.toList ++ [34])) := by
              have e : showR E (k + 1) ++ gt E (k + 1) = T ++ ([32] ++ (E k).name.data.toList ++ [61, 34] ++ escL (E k).value.data.toList ++ [34]) := by
                have g : gt E (k + 1) = [] := by
                  have q : (E (k + 1)).kind = 2 := by simpa using hA
                  simp [gt, gtB, q]
                rw [g, List.append_nil, HSR.out]
              exact e
            go_wp2_with (first | (go_at_call 13; refine (inTag_any _ _ _ _).mono ?_; rintro e w9 ⟨rfl, hb9⟩; obtain ⟨hc9, hf9⟩ := bcell hb9))
            go_roundw
            case rel => exact ⟨k + 1, by omega, by go_num, HN3.out.below hb9, by rw [HG1.out]; exact builder_below HU3.out hb9, below_chain HL3.out hb9 HL3.out.size, by have := hb9.size; omega⟩
            case measure => simp [intOf]; omega
          · cases hB : ((E (k + 1)).kind != 5)
            · skip
              have HG1 : Hid (showR E (k + 1) ++ gt E (k + 1) = T ++ ([32] ++ (E k).name.data.toList ++ [61, 34] ++ escL (E k).value.data.toList ++ [34])) := by
                have e : showR E (k + 1) ++ gt E (k + 1) = T ++ ([32] ++ (E k).name.data.toList ++ [61, 34] ++ escL (E k).value.data.toList ++ [34]) := by
                  have g : gt E (k + 1) = [] := by
                    have q : (E (k + 1)).kind = 5 := by simpa using hB
                    simp [gt, gtB, q]
                  rw [g, List.append_nil, HSR.out]
                exact e
              go_wp2_with (first | (go_at_call 13; refine (inTag_any _ _ _ _).mono ?_; rintro e w9 ⟨rfl, hb9⟩; obtain ⟨hc9, hf9⟩ := bcell hb9))
              go_roundw
              case rel => exact ⟨k + 1, by omega, by go_num, HN3.out.below hb9, by rw [HG1.out]; exact builder_below HU3.out hb9, below_chain HL3.out hb9 HL3.out.size, by have := hb9.size; omega⟩
              case measure => simp [intOf]; omega
            · have HG1 : Hid (showR E (k + 1) ++ gt E (k + 1) = T ++ ([32] ++ (E k).name.data.toList ++ [61, 34] ++ escL (E k).value.data.toList ++ [34]) ++ [62]) := by
                have e : showR E (k + 1) ++ gt E (k + 1) = T ++ ([32] ++ (E k).name.data.toList ++ [61, 34] ++ escL (E k).value.data.toList ++ [34]) ++ [62] := by
                  have g : gt E (k + 1) = [62] := by
                    have q1 : (E (k + 1)).kind ≠ 2 := by simpa using hA
                    have q2 : (E (k + 1)).kind ≠ 5 := by simpa using hB
                    simp [gt, gtB, q1, q2, HK1.out, hin]
                  rw [g, HSR.out]
                exact e
              go_wp2_with (first | (go_at_call 13; refine (inTag_any _ _ _ _).mono ?_; rintro e w9 ⟨rfl, hb9⟩; obtain ⟨hc9, hf9⟩ := bcell hb9))
              have HL9 : Hid (Below w.heap.size w w9) := below_chain HL3.out hb9 HL3.out.size
              have HN9 : Hid (NamesIs w9 w.heap.size (.slice a d cp) (names E (k + 1))) := HN3.out.below hb9
              have hz9 : wc.heap.size ≤ w9.heap.size := hb9.size
              have HU9 : Hid (Lib.IsBuilderF 41 5 w.heap.size bB (Lib.byteCells (T ++ ([32] ++ (E k).name.data.toList ++ [61, 34] ++ escL (E k).value.data.toList ++ [34]))) w9) := builder_below HU3.out hb9
              have HLB : Hid (([32] ++ (E k).name.data.toList ++ [61, 34] ++ escL (E k).value.data.toList ++ [34]).length ≤ 120100) := by
                  have e : ([32] ++ (E k).name.data.toList ++ [61, 34] ++ escL (E k).value.data.toList ++ [34]).length ≤ 120100 := by
                    have h8 : (E k).name.data.toList.length = (E k).name.size := rfl
                    have h7 := HEL.out
                    simp only [List.length_append, List.length_cons, List.length_nil]; omega
                  exact e
              clear hb9 hc9 hf9
              go_wp2_with (first | (go_at_call 10; refine (writeString_any w.heap.size bB (T ++ ([32] ++ (E k).name.data.toList ++ [61, 34] ++ escL (E k).value.data.toList ++ [34])) _ _ HU9.out (by have h6 := HTL.out; have h5 := HLB.out; rw [List.length_append]; show T.length + ([32] ++ (E k).name.data.toList ++ [61, 34] ++ escL (E k).value.data.toList ++ [34]).length + 1 ≤ _; omega) (by omega)).mono ?_; rintro e w4 ⟨rfl, hb4, hl4, ho4⟩))
              go_roundw
              case rel => exact ⟨k + 1, by omega, by go_num, HN9.out.others HU9.out ho4, by rw [HG1.out]; exact hb4, HL9.out.trans hl4, by have := hl4.size; omega⟩
              case measure => simp [intOf]; omega
      · have HK1 : Hid ((E k).kind = 3) := hk1
        rw [hk1] at e1
        have HBX : Hid (BoxIs (wr.alloc (.cells #[Value.int .i64 3, .string (E k).name, .string (E k).value] 31)) wr.heap.size ⟨3, (E k).name, (E k).value⟩) := BoxIs.made wr ⟨3, (E k).name, (E k).value⟩
        have HBA : Hid (Below w.heap.size w (wr.alloc (.cells #[Value.int .i64 3, .string (E k).name, .string (E k).value] 31))) := HBR.out.alloc hzr _
        clear hk1
        have HG1 : Hid (showR E (k + 1) ++ gt E (k + 1) = T ++ (escL (E k).value.data.toList)) := by
          have e : showR E (k + 1) ++ gt E (k + 1) = T ++ (escL (E k).value.data.toList) := by
            have g : gt E (k + 1) = [] := by simp [gt, gtB, HK1.out, inTagB]
            rw [g, List.append_nil, HSH.out]
            simp [body, HK1.out]
          exact e
        go_wp2_with (first | (go_at_call 11; refine (CES.out _ HBA.out).mono ?_; rintro e w2 ⟨rfl, hb2⟩))
        have HU2 : Hid (Lib.IsBuilderF 41 5 w.heap.size bB (Lib.byteCells T) w2) := builder_below (HBL.out.alloc _) hb2
        have HN2 : Hid (NamesIs w2 w.heap.size (.slice a d cp) (names E k)) := NamesIs.below (HNM.out.alloc _) hb2
        have HX2 : Hid (BoxIs w2 wr.heap.size ⟨3, (E k).name, (E k).value⟩) := HBX.out.below hb2
        have HL2 : Hid (Below w.heap.size w w2) := below_chain HBA.out hb2 (by simp; omega)
        have hz2 : w.heap.size ≤ w2.heap.size := HL2.out.size
        have hzz : wr.heap.size < w2.heap.size := by have := hb2.size; simp at this; omega
        have HEL : Hid ((escL (E k).value.data.toList).length ≤ 120000) := by
          have e : (escL (E k).value.data.toList).length ≤ 120000 := by
            have h9 := escL_len (E k).value.data.toList
            have h8 : (E k).value.data.toList.length = (E k).value.size := rfl
            omega
          exact e
        go_wp2_with (first | (go_at_call 10; refine (writeString_any w.heap.size bB T _ _ HU2.out (by have h7 := HEL.out; have h6 := HTL.out; show T.length + (escL (E k).value.data.toList).length ≤ _; omega) hz2).mono ?_; rintro e w3 ⟨rfl, hb3, hl3, ho3⟩; obtain ⟨x0, x1, x2⟩ := BoxIs.cells (HX2.out.others HU2.out ho3)))
        have HU3 : Hid (Lib.IsBuilderF 41 5 w.heap.size bB (Lib.byteCells (T ++ escL (E k).value.data.toList)) w3) := hb3
        have HN3 : Hid (NamesIs w3 w.heap.size (.slice a d cp) (names E (k + 1))) := by
          rw [names_keep (by rw [HK1.out]; decide) (by rw [HK1.out]; decide)]
          exact HN2.out.others HU2.out ho3
        have HX3 : Hid (BoxIs w3 wr.heap.size ⟨3, (E k).name, (E k).value⟩) := HX2.out.others HU2.out ho3
        have HL3 : Hid (Below w.heap.size w w3) := HL2.out.trans hl3
        have hz3 : w2.heap.size ≤ w3.heap.size := hl3.size
        clear hb3 hl3 ho3 hb2 e1 e2 e3 CES
        have hin : inTagB 3 = false := by decide
        go_wp2_with (first | (go_at_call 13; refine (inTag_any _ _ _ _).mono ?_; rintro e w9 ⟨rfl, hb9⟩; obtain ⟨hc9, hf9⟩ := bcell hb9))
        go_roundw
        case rel => exact ⟨k + 1, by omega, by go_num, HN3.out.below hb9, by rw [HG1.out]; exact builder_below HU3.out hb9, below_chain HL3.out hb9 HL3.out.size, by have := hb9.size; omega⟩
        case measure => simp [intOf]; omega
      · have HK1 : Hid ((E k).kind = 4) := hk1
        rw [hk1] at e1
        have HBX : Hid (BoxIs (wr.alloc (.cells #[Value.int .i64 4, .string (E k).name, .string (E k).value] 31)) wr.heap.size ⟨4, (E k).name, (E k).value⟩) := BoxIs.made wr ⟨4, (E k).name, (E k).value⟩
        have HBA : Hid (Below w.heap.size w (wr.alloc (.cells #[Value.int .i64 4, .string (E k).name, .string (E k).value] 31))) := HBR.out.alloc hzr _
        clear hk1
        have HG1 : Hid (showR E (k + 1) ++ gt E (k + 1) = T ++ ([60, 33, 45, 45] ++ (E k).value.data.toList ++ [45, 45, 62])) := by
          have e : showR E (k + 1) ++ gt E (k + 1) = T ++ ([60, 33, 45, 45] ++ (E k).value.data.toList ++ [45, 45, 62]) := by
            have g : gt E (k + 1) = [] := by simp [gt, gtB, HK1.out, inTagB]
            rw [g, List.append_nil, HSH.out]
            simp [body, HK1.out]
          exact e
        have CWS : Hid (Calls Tryd.prog 10 #[.pointer (some ⟨bB, 0, none⟩), .string (⟨#[60, 33, 45, 45]⟩ ++ (E k).value ++ ⟨#[45, 45, 62]⟩)] (wr.alloc (.cells #[Value.int .i64 4, .string (E k).name, .string (E k).value] 31)) fun e w' => e = .returned (.tuple #[.int .i64 (⟨#[60, 33, 45, 45]⟩ ++ (E k).value ++ ⟨#[45, 45, 62]⟩ : ByteArray).size, .nilIface]) ∧ Lib.IsBuilderF 41 5 w.heap.size bB (Lib.byteCells (T ++ ([60, 33, 45, 45] ++ (E k).value.data.toList ++ [45, 45, 62]))) w' ∧ Below w.heap.size (wr.alloc (.cells #[Value.int .i64 4, .string (E k).name, .string (E k).value] 31)) w' ∧ Lib.OthersKept 5 (some bB) (wr.alloc (.cells #[Value.int .i64 4, .string (E k).name, .string (E k).value] 31)) w') := by
          have h := writeString_any w.heap.size bB T (⟨#[60, 33, 45, 45]⟩ ++ (E k).value ++ ⟨#[45, 45, 62]⟩) _ (HBL.out.alloc (.cells #[Value.int .i64 4, .string (E k).name, .string (E k).value] 31)) (by have h6 := HTL.out; rw [size_app, size_app]; show T.length + (4 + (E k).value.size + 3) ≤ _; omega) (by simp; omega)
          rw [data_app, data_app] at h
          exact h
        go_wp2_with (first | (go_at_call 10; refine CWS.out.mono ?_; rintro e w3 ⟨rfl, hb3, hl3, ho3⟩; obtain ⟨x0, x1, x2⟩ := BoxIs.cells (HBX.out.others (HBL.out.alloc _) ho3)))
        have HU3 : Hid (Lib.IsBuilderF 41 5 w.heap.size bB (Lib.byteCells (T ++ ([60, 33, 45, 45] ++ (E k).value.data.toList ++ [45, 45, 62]))) w3) := hb3
        have HN3 : Hid (NamesIs w3 w.heap.size (.slice a d cp) (names E (k + 1))) := by
          rw [names_keep (by rw [HK1.out]; decide) (by rw [HK1.out]; decide)]
          exact NamesIs.others (HNM.out.alloc _) (HBL.out.alloc _) ho3
        have HX3 : Hid (BoxIs w3 wr.heap.size ⟨4, (E k).name, (E k).value⟩) := HBX.out.others (HBL.out.alloc _) ho3
        have HL3 : Hid (Below w.heap.size w w3) := HBA.out.trans hl3
        have hz3 : wr.heap.size < w3.heap.size := by have := hl3.size; simp at this; omega
        clear hb3 hl3 ho3 e1 e2 e3 CES CWS
        have hin : inTagB 4 = false := by decide
        go_wp2_with (first | (go_at_call 13; refine (inTag_any _ _ _ _).mono ?_; rintro e w9 ⟨rfl, hb9⟩; obtain ⟨hc9, hf9⟩ := bcell hb9))
        go_roundw
        case rel => exact ⟨k + 1, by omega, by go_num, HN3.out.below hb9, by rw [HG1.out]; exact builder_below HU3.out hb9, below_chain HL3.out hb9 HL3.out.size, by have := hb9.size; omega⟩
        case measure => simp [intOf]; omega
      · have HK1 : Hid ((E k).kind = 5) := hk1
        rw [hk1] at e1
        have hd1 : 0 < d := by
          have q := (err_zero HK0.out).2.1
          have q2 := names_len E k
          have q3 := HL.out
          by_cases c : (stAt E k).d = 0
          · exact absurd ⟨c, .inl (by omega)⟩ q
          · omega
        clear hk1
        obtain ⟨m, rfl⟩ : ∃ m, k = m + 1 := ⟨k - 1, by omega⟩
        obtain ⟨c, rfl⟩ : ∃ c, d = c + 1 := ⟨d - 1, by omega⟩
        obtain ⟨p1, p2, p3⟩ := HE.out.below HBR.out hb0 m (by omega)
        obtain ⟨g, cp', hv, hg1, hg2, hg3, hg4, hcl, hpop⟩ := HNM.out.pop (by rw [HL.out]; omega)
        rw [HL.out] at hv hg3 hcl hpop
        injection hv with hv1 _ hv2
        subst hv1 hv2
        rw [Nat.add_sub_cancel] at hcl hpop
        have htop : (names E (m + 1)).getLast?.getD ⟨#[]⟩ = topName E (m + 1) := rfl
        rw [htop] at hcl
        clear htop
        have hts : (topName E (m + 1)).size ≤ 1000 := by
          have q := top_small (E := E) (k := m + 1) (fun j hj => HOK.out j (by omega))
          omega
        have HPO : Hid (NamesIs wr w.heap.size (.slice (some ⟨g, 0, none⟩) c cp) (names E (m + 1 + 1))) := by
          rw [names_pop HK1.out]
          exact hpop
        have HBX : Hid (BoxIs (wr.alloc (.cells #[Value.int .i64 5, .string (E (m + 1)).name, .string (E (m + 1)).value] 31)) wr.heap.size ⟨5, (E (m + 1)).name, (E (m + 1)).value⟩) := BoxIs.made wr ⟨5, (E (m + 1)).name, (E (m + 1)).value⟩
        have HBA : Hid (Below w.heap.size w (wr.alloc (.cells #[Value.int .i64 5, .string (E (m + 1)).name, .string (E (m + 1)).value] 31))) := HBR.out.alloc hzr _
        have HLA : Hid (Lib.IsBuilderF 41 5 w.heap.size bB (Lib.byteCells T) (wr.alloc (.cells #[Value.int .i64 5, .string (E (m + 1)).name, .string (E (m + 1)).value] 31))) := HBL.out.alloc _
        have HNA : Hid (NamesIs (wr.alloc (.cells #[Value.int .i64 5, .string (E (m + 1)).name, .string (E (m + 1)).value] 31)) w.heap.size (.slice (some ⟨g, 0, none⟩) c cp) (names E (m + 1 + 1))) := HPO.out.alloc _
        have HEN : Hid (∀ W, Calls Tryd.prog 12 #[.agg #[.int .i64 (E m).kind, .string (E m).name, .string (E m).value], .string (topName E (m + 1))] W fun e w' => e = .returned (.string (endS (E m).kind (topName E (m + 1)))) ∧ Below W.heap.size W w') := fun W => endOf_any _ _ _ _ W hts
        have HEZ : Hid ((endS (E m).kind (topName E (m + 1))).size ≤ 2000) := by
          have e : (endS (E m).kind (topName E (m + 1))).size ≤ 2000 := by
            have q : (endS (E m).kind (topName E (m + 1))).data.toList.length = (endS (E m).kind (topName E (m + 1))).size := rfl
            have q2 : (topName E (m + 1)).data.toList.length = (topName E (m + 1)).size := rfl
            rw [← q, endS_list]
            split
            · simp
            · simp only [List.length_append, List.length_cons, List.length_nil]; omega
          exact e
        have HG1 : Hid (showR E (m + 1 + 1) ++ gt E (m + 1 + 1) = T ++ (endS (E m).kind (topName E (m + 1))).data.toList) := by
          have e : showR E (m + 1 + 1) ++ gt E (m + 1 + 1) = T ++ (endS (E m).kind (topName E (m + 1))).data.toList := by
            have g : gt E (m + 1 + 1) = [] := by simp [gt, gtB, HK1.out, inTagB]
            rw [g, List.append_nil, HSH.out, endS_list]
            simp [body, HK1.out]
          exact e
        have hc1 : (c : Int) < (c : Int) + 1 := by omega
        have hc2' : c < c + 1 := by omega
        have hm1 : (m : Int) < (n : Int) := by omega
        have hm2 : m < n := by omega
        have hcc : (c : Int) ≤ (cp : Int) := by omega
        have hcc2 : c ≤ cp := by omega
        have hc4 : c < 400 := by omega
        have hwm : IntKind.i64.wrap (m : Int) = (m : Int) := (Go.IntWalk.i64_left _).trans (Go.IntWalk.wrap64_in _ (by omega))
        have HUW : Hid (∀ W, Below (wr.alloc (.cells #[Value.int .i64 5, .string (E (m + 1)).name, .string (E (m + 1)).value] 31)).drew.heap.size (wr.alloc (.cells #[Value.int .i64 5, .string (E (m + 1)).name, .string (E (m + 1)).value] 31)).drew W → Hid (Lib.IsBuilderF 41 5 w.heap.size bB (Lib.byteCells T) W ∧ NamesIs W w.heap.size (.slice (some ⟨g, 0, none⟩) c cp) (names E (m + 1 + 1)) ∧ BoxIs W wr.heap.size ⟨5, (E (m + 1)).name, (E (m + 1)).value⟩ ∧ Below w.heap.size w W ∧ wr.heap.size < W.heap.size) ∧ w.heap.size ≤ W.heap.size) := by
          intro W hb
          have hb1 : Below (wr.alloc (.cells #[Value.int .i64 5, .string (E (m + 1)).name, .string (E (m + 1)).value] 31)).heap.size (wr.alloc (.cells #[Value.int .i64 5, .string (E (m + 1)).name, .string (E (m + 1)).value] 31)) W := ⟨hb.os, hb.tape, hb.output, hb.size, hb.block⟩
          have hl := below_chain HBA.out hb1 (by simp; omega)
          exact ⟨⟨builder_below HLA.out hb1, HNA.out.below hb1, HBX.out.below hb1, hl, by have := hb1.size; simp at this; omega⟩, hl.size⟩
        clear hpop hg1 hg4
        go_wp2
        go_cut [6] from 18 to 100 (fun o wx => o = .slice (some ⟨g, 0, none⟩) (c + 1) cp ∧ NamesIs wx w.heap.size (.slice (some ⟨g, 0, none⟩) c cp) (names E (m + 1 + 1)) ∧ Lib.IsBuilderF 41 5 w.heap.size bB (Lib.byteCells (T ++ (endS (E m).kind (topName E (m + 1))).data.toList)) wx ∧ BoxIs wx wr.heap.size ⟨5, (E (m + 1)).name, (E (m + 1)).value⟩ ∧ Below w.heap.size w wx ∧ wr.heap.size < wx.heap.size)
        case first =>
          go_region_with (first | (go_at_call 12; refine (HEN.out _).mono ?_; rintro e w2 ⟨rfl, hb2⟩; obtain ⟨hc2, hf2⟩ := bcell hb2; obtain ⟨H2, hz2⟩ := HUW.out w2 hb2) | (go_at_call 10; go_must (refine (writeString_any w.heap.size bB T _ _ H2.out.1 (by have h6 := HTL.out; have h7 := HEZ.out; omega) hz2).mono ?_; rintro e w3 ⟨rfl, hb3, hl3, ho3⟩)))
          all_goals (go_wp2_with fail; go_meet; exact ⟨rfl, H2.out.2.1.others H2.out.1 ho3, hb3, H2.out.2.2.1.others H2.out.1 ho3, H2.out.2.2.2.1.trans hl3, Nat.lt_of_lt_of_le H2.out.2.2.2.2 hl3.size⟩)
        case rest =>
          obtain ⟨rfl, hn3, hb3, hx3, hl3, hzz⟩ := hcut
          obtain ⟨x0, x1, x2⟩ := hx3.cells
          have HU3 : Hid (Lib.IsBuilderF 41 5 w.heap.size bB (Lib.byteCells (T ++ (endS (E m).kind (topName E (m + 1))).data.toList)) wc) := hb3
          have HN3 : Hid (NamesIs wc w.heap.size (.slice (some ⟨g, 0, none⟩) c cp) (names E (m + 1 + 1))) := hn3
          have HL3 : Hid (Below w.heap.size w wc) := hl3
          have hin : inTagB 5 = false := by decide
          clear hn3 hb3 hx3 hl3 e1 e2 e3 CES p1 p2 p3 hcl
          go_wp2_with (first | (go_at_call 13; refine (inTag_any _ _ _ _).mono ?_; rintro e w9 ⟨rfl, hb9⟩; obtain ⟨hc9, hf9⟩ := bcell hb9))
          go_roundw
          case rel => exact ⟨m + 1 + 1, by omega, by go_num, HN3.out.below hb9, by rw [HG1.out]; exact builder_below HU3.out hb9, below_chain HL3.out hb9 HL3.out.size, by have := hb9.size; omega⟩
          case measure => simp [intOf]; omega
    · have hke : k = n := by omega
      have HGN : Hid (showR E n ++ gt E n = showR E n) := by
        have e : showR E n ++ gt E n = showR E n := by
          obtain ⟨m, rfl⟩ : ∃ m, n = m + 1 := ⟨n - 1, by omega⟩
          have h5 := last_end HOK.out HDZ.out
          have g : gt E (m + 1) = [] := by simp [gt, gtB, h5, inTagB]
          rw [g, List.append_nil]
        exact e
      have CS : Hid (Calls Tryd.prog 14 #[.pointer (some ⟨bB, 0, none⟩)] wr fun e w' => e = .returned (.string ⟨(showR E n).toArray⟩) ∧ Below w.heap.size wr w') := by
        have hx := Tryd.Builder_String_any_k w.heap.size bB (showR E n) wr (by have h := HBL.out; rw [hke, HGN.out] at h; exact h) hzr
        exact hx.mono fun e w' h => ⟨h.1, h.2.2.1⟩
      clear hnm hbl hbr hke hdd hbB
      go_wp2_with (first | (go_at_call 14; refine CS.out.mono ?_; rintro e w2 ⟨rfl, hb2⟩))
      go_ret2
      exact ⟨rfl, HBR.out.trans hb2⟩
end Go.Proofs.YtoifdcipialciaaDoor
