/-
  TEXTS OF NODES: plainly; CONTRACTS of store.Text and of the document's answer to it (textAt, TextOf).
-/
import Derived.Test.YtpccfjoklinaiaaDoorNdAt
import Derived.Lib.Join
import Derived.WalkSmall
set_option linter.unusedVariables false
namespace Go.Proofs.YtpccfjoklinaiaaDoor
open Go.RowKit

/-- the values of the texts among k nodes from one on -/
def textL (E : Nat → Nd) (lo : Nat) : Nat → List ByteArray
  | 0 => []
  | k + 1 => if (E (lo + k)).kind = 3 then textL E lo k ++ [(E (lo + k)).value] else textL E lo k
def catS (xs : List ByteArray) : List UInt8 := xs.flatMap (·.data.toList)
/-- the text of a node -/
def textR (E : Nat → Nd) (i : Nat) : List UInt8 := if holdsB (E i).kind = true then catS (textL E (i + 1) (E i).size.toNat) else (E i).value.data.toList
/-- what is told of the text of a node -/
def textS (E : Nat → Nd) (n : Nat) (i : Int) : List UInt8 := if atF E n i = 0 then textR E i.toNat else []
theorem textL_len (E : Nat → Nd) (lo : Nat) : ∀ k, (textL E lo k).length ≤ k
  | 0 => Nat.le_refl _
  | k + 1 => by
    have := textL_len E lo k
    unfold textL
    split
    · simp; omega
    · omega
theorem value_short {x : Nd} (h : kindB x = true) (h3 : x.kind = 3) : x.value.size ≤ 20000 := by
  unfold kindB at h
  rw [if_neg (by omega), if_neg (by omega), if_neg (by omega), if_pos (.inl h3)] at h
  have ht := (of_decide_eq_true h).2.2
  by_cases hs : 20000 < x.value.size
  · rw [textF_size hs] at ht; cases ht
  · omega
theorem catS_len {E : Nat → Nd} {lo : Nat} : ∀ {k : Nat}, (∀ j, j < k → kindB (E (lo + j)) = true) → (catS (textL E lo k)).length ≤ 20000 * k
  | 0, _ => Nat.le_refl _
  | k + 1, h => by
    have ih := catS_len (k := k) (fun j hj => h j (by omega))
    unfold textL
    by_cases h3 : (E (lo + k)).kind = 3
    · rw [if_pos h3]
      have hv := value_short (h k (by omega)) h3
      have e : (catS (textL E lo k ++ [(E (lo + k)).value])).length = (catS (textL E lo k)).length + (E (lo + k)).value.size := by
        simp [catS]
      omega
    · rw [if_neg h3]; omega
theorem catS_push (xs : List ByteArray) (x : ByteArray) : catS (xs ++ [x]) = catS xs ++ x.data.toList := by simp [catS]
theorem join_cat (xs : List ByteArray) : Lib.join (xs.map (·.data.toList)) [] = catS xs := by
  cases xs with
  | nil => rfl
  | cons x r =>
    rw [List.map_cons, Lib.join_cons]
    simp [Lib.joinTail, catS, List.flatMap_def, Function.comp_def]
theorem app_size (a b : ByteArray) : (a ++ b).size = a.size + b.size := by
  show (a ++ b).data.size = _
  rw [ByteArray.data_append, Array.size_append]; rfl
theorem app_list (a b : ByteArray) : (a ++ b).data.toList = a.data.toList ++ b.data.toList := by rw [ByteArray.data_append, Array.toList_append]

/-- texts in a row of one's own -/
def TxIs (w : World) (base : Nat) (v : Value) (l : List ByteArray) : Prop := w.ownsRow base 9 1 v l.length (l.map Value.string)
theorem TxIs.shape {w : World} {base : Nat} {v : Value} {l : List ByteArray} (h : TxIs w base v l) : ∃ a cap, v = .slice a l.length cap := by
  obtain ⟨_, ⟨rfl, h2⟩ | ⟨g, cap, cur, rfl, _⟩⟩ := h
  · exact ⟨none, 0, by rw [h2]⟩
  · exact ⟨_, cap, rfl⟩
theorem TxIs.alloc {w : World} {base : Nat} {v : Value} {l : List ByteArray} (h : TxIs w base v l) (o : Obj) : TxIs (w.alloc o) base v l := World.ownsRow.alloc h o
theorem TxIs.pushed {w1 : World} {base d : Nat} {v : Value} {l : List ByteArray} {x : ByteArray} (hl : l.length = d)
    (h : w1.ownsRow base 9 1 v (d + 1) (l.map Value.string ++ [.string x])) : TxIs w1 base v (l ++ [x]) := by
  unfold TxIs
  rw [List.length_append, List.length_singleton, hl, List.map_append]
  exact h

theorem join_is (v : Value) (l : List ByteArray) (base : Nat) (w : World) (h : TxIs w base v l) (hc : (catS l).length ≤ 140737488355328) (hl : l.length ≤ 140737488355328) :
    Calls Tryd.prog 31 #[v, .string ⟨#[]⟩] w fun e w' => ∃ s : ByteArray, e = .returned (.string s) ∧ Hid (s.data.toList = catS l) ∧ Below w.heap.size w w' := by
  cases l with
  | nil =>
    obtain ⟨a, cap, rfl⟩ := h.shape
    exact (Tryd.strings_Join_none a cap ⟨#[]⟩ w).mono fun e w' h => ⟨_, h.1, rfl, h.2 ▸ Below.refl _ _⟩
  | cons x r =>
    have h8 := h
    obtain ⟨h1, ⟨_, h2⟩ | ⟨g, cap, cur, rfl, h2, h3, h4, h5, h6, h7⟩⟩ := h
    · cases h2
    · have hg : g < w.heap.size := (Array.getElem?_eq_some_iff.1 h3).1
      have key := Tryd.strings_Join g 0 cap (x :: r) ⟨#[]⟩ w (fun j y hj => by
        have hj' : j < (x :: r).length := (List.getElem?_eq_some_iff.1 hj).1
        rw [Nat.zero_add, h8.cellAt _ (by omega), List.getElem?_map, hj]; rfl) hg hl h4 (by rw [show (⟨#[]⟩ : ByteArray).data.toList = [] from rfl, join_cat]; exact hc)
      refine key.mono fun e w' hh => ⟨_, hh.1, ?_, hh.2⟩
      show (Lib.join ((x :: r).map (·.data.toList)) []) = _
      exact join_cat _

theorem row_one {w : World} (b : Nat) (u : Value) (h : w.cell? ⟨b, 0, none⟩ = some u) : ∀ j x, [u][j]? = some x → w.cell? ((⟨b, 0, none⟩ : Addr).add j) = some x := by
  intro j x hj
  match j, hj with
  | 0, hj => simp at hj; subst hj; exact h
theorem infoStr : (Tryd.prog.info? 9).map (fun i => (i.zero, i.size, i.bytes)) = some (some (.string ByteArray.empty), 1, 16) := by kernel_rfl

set_option maxHeartbeats 800000 in
theorem text_leaf (b off n cap i : Nat) (E : Nat → Nd) (w : World) (hcap : n ≤ cap) (hm : cap ≤ maxLen) (hi : i < n) (hb0 : b < w.heap.size) (hE : NdsAt w b off n E)
    (hC : Calls Tryd.prog 28 #[.slice (some ⟨b, off, none⟩) n cap, .int .i64 i] w fun e w' => e = .returned (.int .i64 0) ∧ Below w.heap.size w w') (hk : holdsB (E i).kind = false) :
    Calls Tryd.prog 14 #[.slice (some ⟨b, off, none⟩) n cap, .int .i64 i] w fun e w' => ∃ s : ByteArray, e = .returned (.tuple #[.string s, .int .i64 0]) ∧ Hid (s.data.toList = textR E i) ∧ Below w.heap.size w w' := by
  have HR : Hid (textR E i = (E i).value.data.toList) := by
    have e : textR E i = (E i).value.data.toList := by unfold textR; rw [hk]; rfl
    exact e
  have CC : Hid (Calls Tryd.prog 28 #[.slice (some ⟨b, off, none⟩) n cap, .int .i64 i] w fun e w' => e = .returned (.int .i64 0) ∧ Below w.heap.size w w') := hC
  have HE : Hid (∀ W, Below w.heap.size w W → NdsAt W b off n E) := fun W hW => hE.below hW hb0
  have CH : Hid (∀ W, Calls Tryd.prog 29 #[.agg #[.int .i64 (E i).kind, .string (E i).name, .string (E i).value, .int .i64 (E i).size, .int .i64 (E i).level, .int .i64 (E i).parent]] W fun e w' => e = .returned (.bool false) ∧ Below W.heap.size W w') :=
    fun W => hk ▸ holds_any (E i).kind (E i).name (E i).value (E i).size (E i).level (E i).parent W
  clear hE hC hk
  go_enter Tryd.func14, Tryd.ntmps14
  go_wp2_with (first | (go_at_call 28; refine CC.out.mono ?_; rintro e w1 ⟨rfl, hb1⟩; have HB1 : Hid (Below w.heap.size w w1) := hb1; obtain ⟨e1, e2, e3, e4, e5, e6⟩ := HE.out w1 HB1.out i hi; clear hb1) |
    (go_at_call 29; refine (CH.out _).mono ?_; rintro e w2 ⟨rfl, hb2⟩; have HB2 : Hid (Below w.heap.size w w2) := HB1.out.trans (hb2.mono HB1.out.size); obtain ⟨f1, f2, f3, f4, f5, f6⟩ := HE.out w2 HB2.out i hi; clear hb2))
  go_ret2
  exact ⟨_, rfl, HR.out.symm, HB2.out⟩

set_option maxHeartbeats 1600000 in
set_option maxRecDepth 100000 in
theorem text_deep (b off n cap i z : Nat) (E : Nat → Nd) (w : World) (hn : n ≤ 100000) (hcap : n ≤ cap) (hm : cap ≤ maxLen) (hi : i < n) (hb0 : b < w.heap.size) (hE : NdsAt w b off n E) (hft : fitTo E n n)
    (hC : Calls Tryd.prog 28 #[.slice (some ⟨b, off, none⟩) n cap, .int .i64 i] w fun e w' => e = .returned (.int .i64 0) ∧ Below w.heap.size w w') (hk : holdsB (E i).kind = true) (hz : (E i).size = (z : Int)) (hzn : i + 1 + z ≤ n) :
    Calls Tryd.prog 14 #[.slice (some ⟨b, off, none⟩) n cap, .int .i64 i] w fun e w' => ∃ s : ByteArray, e = .returned (.tuple #[.string s, .int .i64 0]) ∧ Hid (s.data.toList = textR E i) ∧ Below w.heap.size w w' := by
  have HR : Hid (textR E i = catS (textL E (i + 1) z)) := by
    have e : textR E i = catS (textL E (i + 1) z) := by unfold textR; rw [hk, hz]; rfl
    exact e
  have HLC : Hid (∀ k, k ≤ z → (catS (textL E (i + 1) k)).length ≤ 20000 * k) := fun k hkz => catS_len (fun j hj => (fit_parts (hft (i + 1 + j) (by omega))).1)
  have CC : Hid (Calls Tryd.prog 28 #[.slice (some ⟨b, off, none⟩) n cap, .int .i64 i] w fun e w' => e = .returned (.int .i64 0) ∧ Below w.heap.size w w') := hC
  have HE : Hid (∀ W, Below w.heap.size w W → NdsAt W b off n E) := fun W hW => hE.below hW hb0
  have CH : Hid (∀ W, Calls Tryd.prog 29 #[.agg #[.int .i64 (E i).kind, .string (E i).name, .string (E i).value, .int .i64 (E i).size, .int .i64 (E i).level, .int .i64 (E i).parent]] W fun e w' => e = .returned (.bool true) ∧ Below W.heap.size W w') :=
    fun W => hk ▸ holds_any (E i).kind (E i).name (E i).value (E i).size (E i).level (E i).parent W
  have CW : Hid (∀ W, Below w.heap.size w W → Calls Tryd.prog 30 #[.slice (some ⟨b, off, none⟩) n cap, .int .i64 i] W fun e w' => ∃ o c, e = .returned (.slice (some ⟨b, o, none⟩) z c) ∧ z ≤ c ∧ c ≤ maxLen ∧ NdsAt w' b o z (fun r => E (i + 1 + r)) ∧ w' = W) :=
    fun W hW => within_any b off n cap i z E W hn hcap hm hi (hE.below hW hb0) hz hzn
  obtain ⟨i0, hi0, hz0, hz1, hz2⟩ := info_parts infoStr
  clear hE hC hk hz hft
  go_enter Tryd.func14, Tryd.ntmps14
  go_wp2_with (first | (go_at_call 28; refine CC.out.mono ?_; rintro e w1 ⟨rfl, hb1⟩; have HB1 : Hid (Below w.heap.size w w1) := hb1; obtain ⟨e1, e2, e3, e4, e5, e6⟩ := HE.out w1 HB1.out i hi; clear hb1) |
    (go_at_call 29; refine (CH.out _).mono ?_; rintro e w2 ⟨rfl, hb2⟩; have HB2 : Hid (Below w.heap.size w w2) := HB1.out.trans (hb2.mono HB1.out.size); clear hb2) |
    (go_at_call 30; refine (CW.out _ HB2.out).mono ?_; rintro e w3 ⟨o, c, rfl, hzc, hcm, hsub, rfl⟩; have HSUB : Hid (NdsAt w3 b o z (fun r => E (i + 1 + r))) := hsub; clear hsub))
  have hbw : b < w3.heap.size := Nat.lt_of_lt_of_le hb0 HB2.out.size
  clear e1 e2 e3 e4 e5 e6 CC CH CW HE
  have hzw : w.heap.size ≤ w3.heap.size := HB2.out.size
  go_loopw [7, 31] (fun o7 q wr => ∃ k : Nat, k ≤ z ∧ q = .int .i64 k ∧ TxIs wr w3.heap.size o7 (textL E (i + 1) k) ∧ Below w3.heap.size w3 wr) (fun _ q _ => z - (intOf q).toNat)
  case atStart => exact ⟨0, Nat.zero_le _, rfl, World.ownsRow_nil _ _ _ _, Below.refl _ _⟩
  case round =>
    obtain ⟨k, hk, rfl, htx, hbr⟩ := hrel
    obtain ⟨a, cp, rfl⟩ := htx.shape
    have HTX : Hid (TxIs wr w3.heap.size (.slice a (textL E (i + 1) k).length cp) (textL E (i + 1) k)) := htx
    have HBR : Hid (Below w3.heap.size w3 wr) := hbr
    have hlen := textL_len E (i + 1) k
    have hzr : w3.heap.size ≤ wr.heap.size := hbr.size
    generalize hdd : (textL E (i + 1) k).length = d at *
    have HL : Hid ((textL E (i + 1) k).length = d) := hdd
    by_cases hlt : k < z
    · obtain ⟨e1, e2, e3, e4, e5, e6⟩ := HSUB.out.below hbr hbw k hlt
      have HS : Hid (textL E (i + 1) (k + 1) = if (E (i + 1 + k)).kind = 3 then textL E (i + 1) k ++ [(E (i + 1 + k)).value] else textL E (i + 1) k) := rfl
      have HOWN : Hid (wr.ownsRow w3.heap.size 9 1 (.slice a d cp) d ((textL E (i + 1) k).map Value.string)) := by
        have h := HTX.out
        unfold TxIs at h
        rw [HL.out] at h
        exact h
      have hbz : b < wr.heap.size := by omega
      clear htx hbr hdd
      cases h3 : ((E (i + 1 + k)).kind == 3)
      · have HS1 : Hid (textL E (i + 1) (k + 1) = textL E (i + 1) k) := by
          have e : textL E (i + 1) (k + 1) = textL E (i + 1) k := by rw [HS.out, if_neg (by simpa using h3)]
          exact e
        have HT1 : Hid (TxIs wr w3.heap.size (.slice a d cp) (textL E (i + 1) (k + 1))) := by rw [HS1.out]; exact HTX.out
        go_wp2
        go_roundw
        case rel => exact ⟨k + 1, by omega, by go_num, HT1.out.alloc _, HBR.out.alloc hzr _⟩
        case measure => simp [intOf]; omega
      · have HS1 : Hid (textL E (i + 1) (k + 1) = textL E (i + 1) k ++ [(E (i + 1 + k)).value]) := by
          have e : textL E (i + 1) (k + 1) = textL E (i + 1) k ++ [(E (i + 1 + k)).value] := by rw [HS.out, if_pos (by simpa using h3)]
          exact e
        go_wp2_with (first | (at_builtin; refine wpList_append_own _ rfl _ _ 49 rfl w3.heap.size 9 i0 _ 1 16 Tryd.underlying49 hi0 hz0 hz1 hz2 rfl (by decide) _ _ _ rfl ((HOWN.out.alloc _).alloc _) ⟨wr.heap.size + 1, 0, none⟩ 1 1 [.string (E (i + 1 + k)).value] rfl rfl (row_one _ _ (by simp)) ?c2 ?c3 ?c4 ?c5 ?_))
        case c2 => first | rfl | (intro u hu; simp at hu; subst hu; rfl)
        case c3 => unfold maxLen; omega
        case c4 => omega
        case c5 => first | omega | (simp; omega)
        intro v' w4 hown' hgrow _
        have HN2 : Hid (TxIs w4 w3.heap.size v' (textL E (i + 1) (k + 1))) := by
          rw [HS1.out]
          exact TxIs.pushed HL.out hown'
        have HL2 : Hid (Below w3.heap.size w3 w4) := ((HBR.out.alloc hzr _).alloc (by simp; omega) _).grown hgrow (by simp; omega) (fun q hq => (HOWN.out.lt q hq).1)
        clear hown' hgrow
        go_wp2
        go_roundw
        case rel => exact ⟨k + 1, by omega, by go_num, HN2.out, HL2.out⟩
        case measure => simp [intOf]; omega
    · have e : k = z := by omega
      subst e
      have CJ : Hid (Calls Tryd.prog 31 #[.slice a d cp, .string ⟨#[]⟩] wr fun e w' => ∃ s : ByteArray, e = .returned (.string s) ∧ Hid (s.data.toList = catS (textL E (i + 1) k)) ∧ Below wr.heap.size wr w') :=
        join_is _ _ _ _ htx (by have := HLC.out k (Nat.le_refl _); omega) (by rw [HL.out]; omega)
      clear htx hbr hdd
      go_wp2_with (first | (go_at_call 31; refine CJ.out.mono ?_; rintro e w5 ⟨s, rfl, hs, hb5⟩))
      go_ret2
      exact ⟨s, rfl, hs.out.trans HR.out.symm, HB2.out.trans ((HBR.out.trans (hb5.mono hzr)).mono hzw)⟩

/-- Text, where nodes and place may be -/
theorem text_ok (b off n cap i : Nat) (E : Nat → Nd) (w : World) (hcap : n ≤ cap) (hm : cap ≤ maxLen) (hi : i < n) (hb0 : b < w.heap.size) (hE : NdsAt w b off n E) (hT : Tabs w) (hfi : NdsFine n E) (h0 : nodesF E n = 0) :
    Calls Tryd.prog 14 #[.slice (some ⟨b, off, none⟩) n cap, .int .i64 i] w fun e w' => ∃ s : ByteArray, e = .returned (.tuple #[.string s, .int .i64 0]) ∧ Hid (s.data.toList = textR E i) ∧ Below w.heap.size w w' := by
  have ha : atF E n i = 0 := by unfold atF; rw [if_pos h0, if_pos (by omega)]
  have hC := checkAt_is (.slice (some ⟨b, off, none⟩) n cap) n i E w ⟨_, cap, rfl, hcap, hm, fun _ => ⟨b, off, rfl, hb0, hE⟩⟩ hT hfi
  rw [ha] at hC
  obtain ⟨hn, hft⟩ := nodesF_fit h0
  cases hk : holdsB (E i).kind
  · exact text_leaf b off n cap i E w hcap hm hi hb0 hE hC hk
  · obtain ⟨_, s1, s2, _⟩ := fit_parts (hft i hi)
    exact text_deep b off n cap i (E i).size.toNat E w hn hcap hm hi hb0 hE hft hC hk (by omega) (by omega)
set_option maxHeartbeats 400000 in
theorem text_no (v : Value) (n : Nat) (i : Int) (E : Nat → Nd) (w : World) (hv : NdsIs w v n E) (hT : Tabs w) (hf : NdsFine n E) (ha : ¬ atF E n i = 0) :
    Calls Tryd.prog 14 #[v, .int .i64 i] w fun e w' => e = .returned (.tuple #[.string ⟨#[]⟩, .int .i64 (atF E n i)]) ∧ Below w.heap.size w w' := by
  have CC : Hid (Calls Tryd.prog 28 #[v, .int .i64 i] w fun e w' => e = .returned (.int .i64 (atF E n i)) ∧ Below w.heap.size w w') := checkAt_is v n i E w hv hT hf
  obtain ⟨a, cap, rfl, h1, h2, _⟩ := hv
  have hne : (atF E n i != 0) = true := by simpa using ha
  clear ha
  go_enter Tryd.func14, Tryd.ntmps14
  go_wp2_with (first | (go_at_call 28; refine CC.out.mono ?_; rintro e w1 ⟨rfl, hb1⟩))
  go_ret2
  exact ⟨rfl, hb1⟩
theorem text_is (v : Value) (n : Nat) (i : Int) (E : Nat → Nd) (w : World) (hv : NdsIs w v n E) (hT : Tabs w) (hf : NdsFine n E) :
    Calls Tryd.prog 14 #[v, .int .i64 i] w fun e w' => ∃ s : ByteArray, e = .returned (.tuple #[.string s, .int .i64 (atF E n i)]) ∧ Hid (s.data.toList = textS E n i) ∧ Below w.heap.size w w' := by
  by_cases ha : atF E n i = 0
  · obtain ⟨h0, m, rfl, hmn⟩ := atF_zero ha
    obtain ⟨a, cap, rfl, h1, h2, h3⟩ := hv
    obtain ⟨b, off, rfl, h4, h5⟩ := h3 (by omega)
    unfold textS
    rw [ha, if_pos rfl]
    exact text_ok b off n cap m E w h1 h2 hmn h4 h5 hT hf h0
  · unfold textS
    rw [if_neg ha]
    exact (text_no v n i E w hv hT hf ha).mono fun e w' h => ⟨_, h.1, rfl, h.2⟩
end Go.Proofs.YtpccfjoklinaiaaDoor
