/-
  CONTRACT of the parser's start.
-/
import Derived.Test.YtoifdcipialciaaDoorPxEnd
set_option linter.unusedVariables false
namespace Go.Proofs.YtoifdcipialciaaDoor
set_option maxRecDepth 100000
open Go.RowKit

theorem bad_no {x : Int} (hx : ¬ x = 0) (h : (bad x).1 = 0) : False := hx h
def evEnd : Ev := ⟨5, ⟨#[]⟩, ⟨#[]⟩⟩
def evStart (n : ByteArray) : Ev := ⟨1, n, ⟨#[]⟩⟩
/-- one round of a tag: q: behind the blanks; what stands there -/
def stR (s nm : ByteArray) (O : List ByteArray) (p q : Nat) (L : List Ev) (go : Nat → List Ev → PR) : PR :=
  if hitB s q ⟨#[62]⟩ = true then (0, q + 1, L, O ++ [nm])
  else if hitB s q ⟨#[47]⟩ = true then (exE s (q + 1) ⟨#[62]⟩, exTo s (q + 1) ⟨#[62]⟩, L ++ [evEnd], O)
  else if p < q then (if (attrM s q L O).1 = 0 then go (attrM s q L O).2.1 (attrM s q L O).2.2.1 else bad (attrM s q L O).1)
  else bad (stE s q)
def stF (s nm : ByteArray) (O : List ByteArray) : Nat → Nat → List Ev → PR
  | 0, _, _ => bad 5
  | k + 1, p, L => stR s nm O p (blTo s p) L (stF s nm O k)
def startM (s : ByteArray) (p : Nat) (L : List Ev) (O : List ByteArray) : PR :=
  if nmE s p = 0 then stF s (nmS s p) O (s.size + 1 - nmTo s p) (nmTo s p) (L ++ [evStart (nmS s p)]) else bad (nmE s p)
theorem attrM_ok {s : ByteArray} {p : Nat} {L : List Ev} {O : List ByteArray} (hp : p ≤ s.size) (h : (attrM s p L O).1 = 0) : p < (attrM s p L O).2.1 ∧ (attrM s p L O).2.1 ≤ s.size ∧ (attrM s p L O).2.2.1.length = L.length + 1 ∧ (attrM s p L O).2.2.2 = O := by
  unfold attrM at h ⊢
  by_cases e0 : nmE s p = 0
  · rw [if_pos e0] at h ⊢
    by_cases e1 : exE s (nmTo s p) ⟨#[61, 34]⟩ = 0
    · rw [if_pos e1] at h ⊢
      by_cases e2 : vaE s 34 (atP s p) = 0
      · rw [if_pos e2] at h ⊢
        have a1 := nm_lt hp e0
        have a2 := (nmTo_le hp).2
        have a3 : nmTo s p ≤ atP s p ∧ atP s p ≤ s.size := exTo_le a2
        have a4 := vaTo_le (stop := 34) a3.2
        have a5 := exTo_le (t := ⟨#[34]⟩) a4.2
        dsimp only
        exact ⟨Nat.lt_of_lt_of_le a1 (Nat.le_trans a3.1 (Nat.le_trans a4.1 a5.1)), a5.2, by simp, rfl⟩
      · rw [if_neg e2] at h; exact (bad_no e2 h).elim
    · rw [if_neg e1] at h; exact (bad_no e1 h).elim
  · rw [if_neg e0] at h; exact (bad_no e0 h).elim
theorem stE_ne (s : ByteArray) (p : Nat) : ¬ stE s p = 0 := by unfold stE; split <;> decide
theorem stF_ok {s nm : ByteArray} {O : List ByteArray} : ∀ k p L, p ≤ s.size → (stF s nm O k p L).1 = 0 → p < (stF s nm O k p L).2.1 ∧ (stF s nm O k p L).2.1 ≤ s.size ∧ (stF s nm O k p L).2.2.1.length + p + 1 ≤ L.length + (stF s nm O k p L).2.1 + 1 ∧ (stF s nm O k p L).2.2.2.length ≤ O.length + 1
  | 0, p, L, hp, h => by simp [stF, bad] at h
  | k + 1, p, L, hp, h => by
    obtain ⟨b1, b2⟩ := blTo_le hp
    rw [stF] at h ⊢
    unfold stR at h ⊢
    by_cases e0 : hitB s (blTo s p) ⟨#[62]⟩ = true
    · rw [if_pos e0]
      have := hit_le b2 e0
      have e1 : (⟨#[62]⟩ : ByteArray).size = 1 := rfl
      refine ⟨?_, ?_, ?_, ?_⟩ <;> simp <;> omega
    · rw [if_neg e0] at h ⊢
      by_cases e1 : hitB s (blTo s p) ⟨#[47]⟩ = true
      · rw [if_pos e1]
        have h1 := hit_le b2 e1
        have e2 : (⟨#[47]⟩ : ByteArray).size = 1 := rfl
        rw [e2] at h1
        have h2 := exTo_le (t := ⟨#[62]⟩) h1
        generalize exTo s (blTo s p + 1) ⟨#[62]⟩ = x at h2 ⊢
        generalize exE s (blTo s p + 1) ⟨#[62]⟩ = y
        refine ⟨?_, ?_, ?_, ?_⟩ <;> simp <;> omega
      · rw [if_neg e1] at h ⊢
        by_cases e2 : p < blTo s p
        · rw [if_pos e2] at h ⊢
          by_cases e3 : (attrM s (blTo s p) L O).1 = 0
          · rw [if_pos e3] at h ⊢
            obtain ⟨a1, a2, a3, a4⟩ := attrM_ok b2 e3
            have := stF_ok k _ _ a2 h
            refine ⟨?_, this.2.1, ?_, this.2.2.2⟩ <;> omega
          · rw [if_neg e3] at h; exact (bad_no e3 h).elim
        · rw [if_neg e2] at h; exact (bad_no (stE_ne _ _) h).elim
theorem startM_ok {s : ByteArray} {p : Nat} {L : List Ev} {O : List ByteArray} (hp : p ≤ s.size) (h : (startM s p L O).1 = 0) : p < (startM s p L O).2.1 ∧ (startM s p L O).2.1 ≤ s.size ∧ (startM s p L O).2.2.1.length + p ≤ L.length + (startM s p L O).2.1 ∧ (startM s p L O).2.2.2.length ≤ O.length + 1 := by
  unfold startM at h ⊢
  by_cases e0 : nmE s p = 0
  · rw [if_pos e0] at h ⊢
    have a1 := nm_lt hp e0
    have := stF_ok _ _ _ (nmTo_le hp).2 h
    rw [show (L ++ [evStart (nmS s p)]).length = L.length + 1 by simp] at this
    refine ⟨?_, this.2.1, ?_, this.2.2.2⟩ <;> omega
  · rw [if_neg e0] at h; exact (bad_no e0 h).elim

theorem infoStP : (Tryd.prog.info? 9).map (fun i => (i.zero, i.size, i.bytes)) = some (some (.string ByteArray.empty), 1, 16) := by kernel_rfl
theorem push_ps {w0 W w6 : World} {pb : Nat} {s : ByteArray} {q : Nat} {L : List Ev} {O : List ByteArray} {nm : ByteArray} {ev op v6 : Value} {o : Obj} (hc : PCells W pb s q ev op) (hE : W.ownsRow (pb + 1) 31 3 ev L.length (evsCp L)) (hO : W.ownsRow (pb + 1) 9 1 op O.length (strsCp O)) (hA : ∀ k, ev.ownBlock = some k → op.ownBlock ≠ some k) (lo : Below pb w0 W)
    (hown : w6.ownsRow (pb + 1) 9 1 v6 (O.length + 1) (strsCp O ++ [.string nm])) (hg : (W.alloc o).grownBy w6 op.ownBlock) (hk : v6.ownBlock = op.ownBlock ∨ v6.ownBlock = some (W.alloc o).heap.size) :
    PCells w6 pb s q ev op ∧ PS w0 (w6.setCell ⟨pb, 3, none⟩ v6) pb s q L (O ++ [nm]) := by
  obtain ⟨h0, h1, h2, h3, h4, h5, h6, h7⟩ := hc
  have hOb : ∀ b, b < W.heap.size → op.ownBlock ≠ some b → w6.heap[b]? = W.heap[b]? := fun b hb hne => (hg.block b (by simp; omega) (fun e => hne e.symm)).trans (Below.heap_alloc _ _ _ hb)
  have hpo : op.ownBlock ≠ some pb := fun e => by have := (hO.lt pb e).1; omega
  have hpb := hOb pb h7 hpo
  have y0 := (World.cell?_of_block (a := ⟨pb, 0, none⟩) hpb).trans h0
  have y1 := (World.cell?_of_block (a := ⟨pb, 1, none⟩) hpb).trans h1
  have y2 := (World.cell?_of_block (a := ⟨pb, 2, none⟩) hpb).trans h2
  have y3 := (World.cell?_of_block (a := ⟨pb, 3, none⟩) hpb).trans h3
  have y4 := (World.frozen?_of_block (a := ⟨pb, 1, none⟩) hpb).trans h4
  have y5 := (World.frozen?_of_block (a := ⟨pb, 2, none⟩) hpb).trans h5
  have y6 := (World.frozen?_of_block (a := ⟨pb, 3, none⟩) hpb).trans h6
  have hsz : W.heap.size + 1 ≤ w6.heap.size := by have := hg.size; simpa using this
  have y7 : pb < w6.heap.size := by omega
  refine ⟨⟨y0, y1, y2, y3, y4, y5, y6, y7⟩, ⟨⟨ev, v6, ⟨by simp [go_sem, y0], by simp [go_sem, y1], by simp [go_sem, y2], by simp [go_sem, y3], by simp [go_sem, y4], by simp [go_sem, y5], by simp [go_sem, y6], by simpa using y7⟩, ?_, ?_, ?_⟩, ?_⟩⟩
  · exact own_keepP hE (fun b k1 k2 k3 => (Below.heap_setCell _ _ _ _ (by simp; omega)).trans (hOb b k2 (fun e => hA b k3 e)))
  · have h := own_keepP hown (w' := w6.setCell ⟨pb, 3, none⟩ v6) (fun b k1 k2 _ => Below.heap_setCell _ _ _ _ (by simp; omega))
    rw [show (O ++ [nm]).length = O.length + 1 by simp, show strsCp (O ++ [nm]) = strsCp O ++ [.string nm] by simp [strsCp]]
    exact h
  · intro k hk1 e
    rcases hk with h | h
    · rw [h] at e; exact hA k hk1 e
    · rw [h] at e
      have := (hE.lt k hk1).2
      simp at e
      omega
  · have hB : Below pb W (w6.setCell ⟨pb, 3, none⟩ v6) := ⟨by have := hg.os; exact this, by have := hg.tape; exact this, by have := hg.output; exact this, by simp; omega, fun b k1 => (Below.heap_setCell _ _ _ _ (by simp; omega)).trans (hOb b (by omega) (fun e => by have := (hO.lt b e).1; omega))⟩
    exact lo.trans hB
theorem wpList_append_atS {P : Program} {ops : Array Oper} {rest : List Oper} {o : Oper} {a : Act} {w : World} {Q : Exit → Act → World → Prop} (hgd : o.guard = none) (s x : Operand) (t : TypeId)
    (ho : o.op = .call { callee := .builtin .append, args := #[s, x], argTypes := #[t, t] })
    (base : Nat) (e : TypeId) (i : TypeInfo) (z : Value) (size bytes : Nat) (ht : P.underlying t = some (.slice e)) (hi : P.info? e = some i) (hz : i.zero = some z)
    (hsize : i.size = size) (hby : i.bytes = bytes) (hzs : z.cells.size = size) (hsz : 0 < size)
    (v : Value) (n : Nat) (xs : List Value) (hs : a.eval s = v) (hown : w.ownsRow base e size v n xs)
    (ad : Addr) (m c : Nat) (news : List Value) (hx : a.eval x = .slice (some ad) m c) (hl : news.length = m * size) (hnews : ∀ j u, news[j]? = some u → w.cell? (ad.add j) = some u) (h1 : ∀ u ∈ news, u.oneCell' = true)
    (h63 : n + m ≤ maxLen) (hbytes : (n + m) * bytes ≤ 140737488355328) (hbase : base ≤ w.heap.size)
    (h : ∀ v' w', w'.ownsRow base e size v' (n + m) (xs ++ news) → w.grownBy w' v.ownBlock → (v'.ownBlock = v.ownBlock ∨ v'.ownBlock = some w.heap.size) → wpList P ops Q rest (a.put o.dst v') w') : wpList P ops Q (o :: rest) a w :=
  wpList_append_atP hgd s x t ho base e i z size bytes ht hi hz hsize hby hzs hsz v n xs hs hown ad m c news hx hl hnews h1 h63 hbytes hbase h
theorem str_in {w : World} (nm : ByteArray) : ∀ j u, ([Value.string nm] : List Value)[j]? = some u → (w.alloc (.cells #[.string nm] 9)).cell? ((⟨w.heap.size, 0, none⟩ : Addr).add j) = some u := by
  intro j u hj
  have hj3 : j < 1 := (List.getElem?_eq_some_iff.1 hj).1
  obtain rfl : j = 0 := by omega
  simp at hj; subst hj; simp [Addr.add]

def startPost (w0 : World) (pb : Nat) (s : ByteArray) (r : PR) : Ending → World → Prop := PPost w0 pb s r
set_option maxHeartbeats 3200000 in
theorem start_is {w0 : World} {pb : Nat} {s : ByteArray} {p : Nat} {L : List Ev} {O : List ByteArray} {w : World} (hB : PBase w0 pb) (h : PS w0 w pb s p L O) (hp : p ≤ s.size) (hs : s.size ≤ 4000) (hL : L.length ≤ 20000) (hO : O.length ≤ 20000) :
    Calls Tryd.prog 16 #[.pointer (some ⟨pb, 0, none⟩)] w (startPost w0 pb s (startM s p L O)) := by
  have CN : Hid (Calls Tryd.prog 23 #[.pointer (some ⟨pb, 0, none⟩)] w fun e w' => e = .returned (.tuple #[.string (nmS s p), .int .i64 (nmE s p)]) ∧ PS w0 w' pb s (nmTo s p) L O) := name_ps h hp hs
  by_cases e0 : nmE s p = 0
  · have hp1 : nmTo s p ≤ s.size := (nmTo_le hp).2
    have HR : Hid (startM s p L O = stF s (nmS s p) O (s.size + 1 - nmTo s p) (nmTo s p) (L ++ [evStart (nmS s p)])) := if_pos e0
    rw [e0] at CN
    clear e0 h
    obtain ⟨R, hR⟩ : ∃ R, R = startM s p L O := ⟨_, rfl⟩
    rw [← hR] at HR ⊢
    clear hR
    generalize nmS s p = nm at CN HR
    generalize nmTo s p = p1 at CN HR hp1
    have HP1 : Hid (p1 ≤ s.size) := hp1
    have CA : Hid (∀ W, PS w0 W pb s p1 L O → Calls Tryd.prog 24 #[.pointer (some ⟨pb, 0, none⟩), .int .i64 1, .string nm, .string ⟨#[]⟩] W fun e w' => e = .returned (.tuple #[]) ∧ PS w0 w' pb s p1 (L ++ [evStart nm]) O) := fun W hW => add_ps (evStart nm) hW (by omega)
    go_enter Tryd.func16, Tryd.ntmps16
    go_wp2_with (first
      | (go_at_call 23; refine CN.out.mono ?_; rintro e w1 ⟨rfl, hp1⟩)
      | (go_at_call 24; refine (CA.out _ hp1).mono ?_; rintro e w2 ⟨rfl, hp2⟩))
    go_loopg [] (s.size - p1) (fun g wr => ∃ (q k : Nat) (L' : List Ev), q ≤ s.size ∧ g = s.size - q ∧ s.size + 1 - q ≤ k ∧ L'.length ≤ 20001 + q ∧ stF s nm O k q L' = R ∧ PS w0 wr pb s q L' O)
    case atStart => exact ⟨p1, s.size + 1 - p1, L ++ [evStart nm], HP1.out, rfl, Nat.le_refl _, by simp; omega, HR.out.symm, hp2⟩
    case round =>
      obtain ⟨q, k, L', hq, rfl, hk, hL', hst, hps⟩ := hrel
      obtain ⟨k', rfl⟩ : ∃ k', k = k' + 1 := ⟨k - 1, by omega⟩
      have CB : Hid (Calls Tryd.prog 25 #[.pointer (some ⟨pb, 0, none⟩)] wr fun e w' => e = .returned (.bool (decide (q < blTo s q))) ∧ PS w0 w' pb s (blTo s q) L' O) := blanks_ps hps hq hs
      have HS : Hid (stR s nm O q (blTo s q) L' (stF s nm O k') = R) := by rw [stF] at hst; exact hst
      obtain ⟨b1, b2⟩ := blTo_le hq
      clear hst hps hp2 hp1 CN CA HR
      generalize blTo s q = z at CB HS b1 b2
      have CG : Hid (∀ W, PS w0 W pb s z L' O → Calls Tryd.prog 21 #[.pointer (some ⟨pb, 0, none⟩), .string ⟨#[62]⟩] W fun e w' => e = .returned (.bool (hitB s z ⟨#[62]⟩)) ∧ PS w0 w' pb s (skTo s z ⟨#[62]⟩) L' O) := fun W hW => skip_ps ⟨#[62]⟩ hW b2 hs (by show (1 : Nat) ≤ 100; decide)
      have CS : Hid (∀ W, PS w0 W pb s z L' O → Calls Tryd.prog 21 #[.pointer (some ⟨pb, 0, none⟩), .string ⟨#[47]⟩] W fun e w' => e = .returned (.bool (hitB s z ⟨#[47]⟩)) ∧ PS w0 w' pb s (skTo s z ⟨#[47]⟩) L' O) := fun W hW => skip_ps ⟨#[47]⟩ hW b2 hs (by show (1 : Nat) ≤ 100; decide)
      cases e1 : hitB s z ⟨#[62]⟩
      · have HK1 : Hid (skTo s z ⟨#[62]⟩ = z) := if_neg (by rw [e1]; decide)
        rw [e1, HK1.out] at CG
        cases e2 : hitB s z ⟨#[47]⟩
        · have HK2 : Hid (skTo s z ⟨#[47]⟩ = z) := if_neg (by rw [e2]; decide)
          rw [e2, HK2.out] at CS
          by_cases e3 : q < z
          · have HT : Hid (decide (q < z) = true) := decide_eq_true e3
            rw [HT.out] at CB
            have CT : Hid (∀ W, PS w0 W pb s z L' O → Calls Tryd.prog 26 #[.pointer (some ⟨pb, 0, none⟩)] W (PPost w0 pb s (attrM s z L' O))) := fun W hW => attr_is hB hW b2 hs (by omega)
            have HS2 : Hid ((if (attrM s z L' O).1 = 0 then stF s nm O k' (attrM s z L' O).2.1 (attrM s z L' O).2.2.1 else bad (attrM s z L' O).1) = R) := by
              have h := HS.out
              unfold stR at h
              rw [if_neg (by rw [e1]; decide), if_neg (by rw [e2]; decide), if_pos e3] at h
              exact h
            have HOK : Hid ((attrM s z L' O).1 = 0 → z < (attrM s z L' O).2.1 ∧ (attrM s z L' O).2.1 ≤ s.size ∧ (attrM s z L' O).2.2.1.length = L'.length + 1 ∧ (attrM s z L' O).2.2.2 = O) := fun h => attrM_ok b2 h
            clear HS e1 e2 e3 HK1 HK2 HT
            obtain ⟨A, hA⟩ : ∃ A, A = attrM s z L' O := ⟨_, rfl⟩
            rw [← hA] at CT HS2 HOK
            clear hA
            obtain ⟨aE, aP, aL, aO⟩ := A
            by_cases e4 : aE = 0
            · subst e4
              obtain ⟨o1, o2, o3, o4⟩ := HOK.out rfl
              have HS3 : Hid (stF s nm O k' aP aL = R) := HS2.out
              simp only at o1 o2 o3 o4
              subst o4
              have HL3 : Hid (aL.length ≤ 20001 + aP) := by have h : aL.length ≤ 20001 + aP := by omega
                                                            exact h
              clear o3 HOK HS2
              go_wp2_with (first
                | (go_at_call 25; refine CB.out.mono ?_; rintro e w3 ⟨rfl, hp3⟩)
                | (go_at_call_has 21 (Value.string ⟨#[62]⟩); refine (CG.out _ hp3).mono ?_; rintro e w4 ⟨rfl, hp4⟩)
                | (go_at_call_has 21 (Value.string ⟨#[47]⟩); refine (CS.out _ hp4).mono ?_; rintro e w5 ⟨rfl, hp5⟩)
                | (go_at_call 26; refine (CT.out _ hp5).mono ?_; rintro e w6 ⟨rfl, _, hp6⟩; have HP6 := hp6 rfl; clear hp6))
              go_roundg (s.size - aP)
              case rel => exact ⟨aP, k', aL, o2, rfl, by omega, HL3.out, HS3.out, HP6⟩
              case measure => omega
            · have HR2 : Hid (bad aE = R) := by have h := HS2.out; rw [if_neg e4] at h; exact h
              have HN : Hid (¬ aE = 0) := e4
              have t0 : (aE != 0) = true := by rw [bne_iff_ne]; exact e4
              clear e4 HOK HS2
              go_wp2_with (first
                | (go_at_call 25; refine CB.out.mono ?_; rintro e w3 ⟨rfl, hp3⟩)
                | (go_at_call_has 21 (Value.string ⟨#[62]⟩); refine (CG.out _ hp3).mono ?_; rintro e w4 ⟨rfl, hp4⟩)
                | (go_at_call_has 21 (Value.string ⟨#[47]⟩); refine (CS.out _ hp4).mono ?_; rintro e w5 ⟨rfl, hp5⟩)
                | (go_at_call 26; refine (CT.out _ hp5).mono ?_; rintro e w6 ⟨rfl, lo6, _⟩))
              all_goals (exact bodyPost_ret (v := .int .i64 aE) (by simp [results, Tryd.results16, go_sem]) rfl (by rw [← HR2.out]; exact PPost.bad HN.out lo6))
          · have HT : Hid (decide (q < z) = false) := decide_eq_false e3
            rw [HT.out] at CB
            have HR2 : Hid (bad (stE s z) = R) := by
              have h := HS.out
              unfold stR at h
              rw [if_neg (by rw [e1]; decide), if_neg (by rw [e2]; decide), if_neg e3] at h
              exact h
            have CK : Hid (∀ W, PS w0 W pb s z L' O → Calls Tryd.prog 22 #[.pointer (some ⟨pb, 0, none⟩)] W fun e w' => e = .returned (.int .i64 (stE s z)) ∧ PS w0 w' pb s z L' O) := fun W hW => stuck_ps hW
            have HN : Hid (¬ stE s z = 0) := stE_ne s z
            clear HS e1 e2 e3 HK1 HK2 HT
            generalize stE s z = x at CK HR2 HN
            go_wp2_with (first
              | (go_at_call 25; refine CB.out.mono ?_; rintro e w3 ⟨rfl, hp3⟩)
              | (go_at_call_has 21 (Value.string ⟨#[62]⟩); refine (CG.out _ hp3).mono ?_; rintro e w4 ⟨rfl, hp4⟩)
              | (go_at_call_has 21 (Value.string ⟨#[47]⟩); refine (CS.out _ hp4).mono ?_; rintro e w5 ⟨rfl, hp5⟩)
              | (go_at_call 22; refine (CK.out _ hp5).mono ?_; rintro e w6 ⟨rfl, hp6⟩))
            all_goals (exact bodyPost_ret (v := .int .i64 x) (by simp [results, Tryd.results16, go_sem]) rfl (by rw [← HR2.out]; exact PPost.bad HN.out hp6.lo))
        · have h1 : z + 1 ≤ s.size := hit_le b2 e2
          have HK2 : Hid (skTo s z ⟨#[47]⟩ = z + 1) := if_pos e2
          rw [e2, HK2.out] at CS
          have HR2 : Hid ((exE s (z + 1) ⟨#[62]⟩, exTo s (z + 1) ⟨#[62]⟩, L' ++ [evEnd], O) = R) := by
            have h := HS.out
            unfold stR at h
            rw [if_neg (by rw [e1]; decide), if_pos e2] at h
            exact h
          have CA : Hid (∀ W, PS w0 W pb s (z + 1) L' O → Calls Tryd.prog 24 #[.pointer (some ⟨pb, 0, none⟩), .int .i64 5, .string ⟨#[]⟩, .string ⟨#[]⟩] W fun e w' => e = .returned (.tuple #[]) ∧ PS w0 w' pb s (z + 1) (L' ++ [evEnd]) O) := fun W hW => add_ps evEnd hW (by omega)
          have CX : Hid (∀ W, PS w0 W pb s (z + 1) (L' ++ [evEnd]) O → Calls Tryd.prog 15 #[.pointer (some ⟨pb, 0, none⟩), .string ⟨#[62]⟩] W fun e w' => e = .returned (.int .i64 (exE s (z + 1) ⟨#[62]⟩)) ∧ PS w0 w' pb s (exTo s (z + 1) ⟨#[62]⟩) (L' ++ [evEnd]) O) := fun W hW => expect_ps ⟨#[62]⟩ hW h1 hs (by show (1 : Nat) ≤ 100; decide)
          clear HS e1 e2 HK1 HK2
          generalize exE s (z + 1) ⟨#[62]⟩ = x at CX HR2
          generalize exTo s (z + 1) ⟨#[62]⟩ = y at CX HR2
          generalize decide (q < z) = bl at CB
          go_wp2_with (first
            | (go_at_call 25; refine CB.out.mono ?_; rintro e w3 ⟨rfl, hp3⟩)
            | (go_at_call_has 21 (Value.string ⟨#[62]⟩); refine (CG.out _ hp3).mono ?_; rintro e w4 ⟨rfl, hp4⟩)
            | (go_at_call_has 21 (Value.string ⟨#[47]⟩); refine (CS.out _ hp4).mono ?_; rintro e w5 ⟨rfl, hp5⟩)
            | (go_at_call 24; refine (CA.out _ hp5).mono ?_; rintro e w6 ⟨rfl, hp6⟩)
            | (go_at_call 15; refine (CX.out _ hp6).mono ?_; rintro e w7 ⟨rfl, hp7⟩))
          all_goals (exact bodyPost_ret (v := .int .i64 x) (by simp [results, Tryd.results16, go_sem]) rfl (by rw [← HR2.out]; exact PPost.good hp7))
      · have h1 : z + 1 ≤ s.size := hit_le b2 e1
        have HK1 : Hid (skTo s z ⟨#[62]⟩ = z + 1) := if_pos e1
        rw [e1, HK1.out] at CG
        have HR2 : Hid ((0, z + 1, L', O ++ [nm]) = R) := by
          have h := HS.out
          unfold stR at h
          rw [if_pos e1] at h
          exact h
        clear HS e1 HK1 CS
        generalize decide (q < z) = bl at CB
        obtain ⟨i0, hi0, hz0, hz1, hz2⟩ := info_partsP infoStP
        go_wp2_with (first
          | (go_at_call 25; refine CB.out.mono ?_; rintro e w3 ⟨rfl, hp3⟩)
          | (go_at_call_has 21 (Value.string ⟨#[62]⟩); refine (CG.out _ hp3).mono ?_; rintro e w4 ⟨rfl, hp4⟩; obtain ⟨⟨ev, op, hc, hE, hRo, hA⟩, lo⟩ := hp4; obtain ⟨oa, oc, rfl⟩ := own_shapeP hRo; have HC4 : Hid (PCells w4 pb s (z + 1) ev (.slice oa O.length oc)) := hc; have HE4 : Hid (w4.ownsRow (pb + 1) 31 3 ev L'.length (evsCp L')) := hE; have HO4 : Hid (w4.ownsRow (pb + 1) 9 1 (.slice oa O.length oc) O.length (strsCp O)) := hRo; have HA4 : Hid (∀ k, ev.ownBlock = some k → (Value.slice oa O.length oc).ownBlock ≠ some k) := hA; have HLO4 : Hid (Below pb w0 w4) := lo; obtain ⟨h0, h1, h2, h3, h4, h5, h6, h7⟩ := hc; clear hE hRo hA lo)
          | (at_builtin; refine wpList_append_atS rfl (.tmp 27) (.tmp 29) 33 rfl (pb + 1) 9 i0 _ 1 16 Tryd.underlying33 hi0 hz0 hz1 hz2 rfl (by decide) _ _ _ rfl (HO4.out.alloc _) ⟨w4.heap.size, 0, none⟩ 1 1 [.string nm] rfl rfl (str_in nm) (by simp [Value.oneCell']) (by unfold maxLen; omega) (by omega) (by simp <;> omega) ?_; intro v6 w6 hown6 hgrow6 hk6; have hpp := push_ps HC4.out HE4.out HO4.out HA4.out HLO4.out hown6 hgrow6 hk6; obtain ⟨va6, vc6, rfl⟩ := own_shapeP hown6; obtain ⟨⟨y0, y1, y2, y3, y4, y5, y6, y7⟩, hs6⟩ := hpp; have HS6 : Hid (PS w0 (w6.setCell ⟨pb, 3, none⟩ (.slice va6 (O.length + 1) vc6)) pb s (z + 1) L' (O ++ [nm])) := hs6; clear hown6 hgrow6 hk6 hs6))
        all_goals (exact bodyPost_ret (v := .int .i64 0) (by simp [results, Tryd.results16, go_sem]) rfl (by rw [← HR2.out]; exact PPost.good HS6.out))
  · have HR : Hid (startM s p L O = bad (nmE s p)) := if_neg e0
    have HN : Hid (¬ nmE s p = 0) := e0
    have t0 : (nmE s p != 0) = true := by rw [bne_iff_ne]; exact e0
    clear e0 h
    go_enter Tryd.func16, Tryd.ntmps16
    go_wp2_with (first
      | (go_at_call 23; refine CN.out.mono ?_; rintro e w1 ⟨rfl, hp1⟩))
    all_goals (exact bodyPost_ret (v := .int .i64 (nmE s p)) (by simp [results, Tryd.results16, go_sem]) rfl (by rw [HR.out]; exact PPost.bad HN.out hp1.lo))
end Go.Proofs.YtoifdcipialciaaDoor
