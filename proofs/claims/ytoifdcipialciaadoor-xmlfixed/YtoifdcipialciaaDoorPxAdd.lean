/-
  THE PARSER's STATE (the text, the place, the events, the open names, each list in a row of its own); CONTRACT of its add.
-/
import Derived.Test.YtoifdcipialciaaDoorPxName
import Derived.Test.YtoifdcipialciaaDoorEv
import Derived.Laws.OwnMore
import Derived.Laws.AppendOwnNone
import Derived.Maps.AppendAt
import Derived.OwnWalk
set_option linter.unusedVariables false
namespace Go.Proofs.YtoifdcipialciaaDoor
set_option maxRecDepth 100000
open Go.RowKit

def evCp (t : Ev) : List Value := [.int .i64 t.kind, .string t.name, .string t.value]
def evsCp (L : List Ev) : List Value := L.flatMap evCp
def strsCp (O : List ByteArray) : List Value := O.map fun s => .string s
/-- the parser: its cells, and its two rows, behind its own block, apart from each other -/
def PState (w : World) (pb : Nat) (s : ByteArray) (p : Nat) (L : List Ev) (O : List ByteArray) : Prop :=
  ∃ ev op, PCells w pb s p ev op ∧ w.ownsRow (pb + 1) 31 3 ev L.length (evsCp L) ∧ w.ownsRow (pb + 1) 9 1 op O.length (strsCp O) ∧ ∀ k, ev.ownBlock = some k → op.ownBlock ≠ some k
theorem own_keepP {w w' : World} {base : Nat} {e : TypeId} {size : Nat} {v : Value} {n : Nat} {xs : List Value} (h : w.ownsRow base e size v n xs) (hb : ∀ b, base ≤ b → b < w.heap.size → v.ownBlock = some b → w'.heap[b]? = w.heap[b]?) : w'.ownsRow base e size v n xs := by
  refine ⟨h.1, ?_⟩
  rcases h.2 with h1 | ⟨g, cap, cur, h1, h2, h3, h4⟩
  · exact .inl h1
  · refine .inr ⟨g, cap, cur, h1, h2, ?_, h4⟩
    rw [hb g h2 (Array.getElem?_eq_some_iff.1 h3).1 (by rw [h1]; rfl)]
    exact h3
theorem GrowP.low {pb : Nat} {w w' : World} (h : GrowP pb w w') (hp : pb ≤ w.heap.size) : Below pb w w' := ⟨h.2.1, h.2.2.1, h.2.2.2.1, h.1, fun b hb => h.2.2.2.2 b (by omega) (by omega)⟩
theorem PState.by {w w' : World} {pb : Nat} {s : ByteArray} {p q : Nat} {L : List Ev} {O : List ByteArray} {ev op : Value} (h : PState w pb s p L O) (hc : ∀ ev op, PCells w pb s p ev op → PCells w' pb s q ev op) (hg : GrowP pb w w') : PState w' pb s q L O := by
  obtain ⟨ev, op, h1, h2, h3, h4⟩ := h
  exact ⟨ev, op, hc ev op h1, own_keepP h2 (fun b k1 k2 _ => hg.2.2.2.2 b k2 (by omega)), own_keepP h3 (fun b k1 k2 _ => hg.2.2.2.2 b k2 (by omega)), h4⟩
theorem infoEvP : (Tryd.prog.info? 31).map (fun i => (i.zero, i.size, i.bytes)) = some (some (.agg #[.int .i64 0, .string ByteArray.empty, .string ByteArray.empty]), 3, 40) := by kernel_rfl
theorem info_partsP {T : TypeId} {z : Value} {n b : Nat} (h : (Tryd.prog.info? T).map (fun i => (i.zero, i.size, i.bytes)) = some (some z, n, b)) : ∃ i, Tryd.prog.info? T = some i ∧ i.zero = some z ∧ i.size = n ∧ i.bytes = b := by
  cases e : Tryd.prog.info? T with
  | none => rw [e] at h; cases h
  | some i =>
    rw [e] at h
    simp only [Option.map_some, Option.some.injEq, Prod.mk.injEq] at h
    exact ⟨i, rfl, h.1, h.2.1, h.2.2⟩
theorem elemP_in {w : World} (t : Ev) : ∀ j u, (evCp t)[j]? = some u → (w.alloc (.cells #[.int .i64 t.kind, .string t.name, .string t.value] 31)).cell? ((⟨w.heap.size, 0, none⟩ : Addr).add j) = some u := by
  intro j u hj
  have hj3 : j < 3 := (List.getElem?_eq_some_iff.1 hj).1
  match j, hj3 with
  | 0, _ => simp [evCp] at hj; subst hj; simp [Addr.add]
  | 1, _ => simp [evCp] at hj; subst hj; simp [Addr.add]
  | 2, _ => simp [evCp] at hj; subst hj; simp [Addr.add]
theorem elemP_one (t : Ev) : ∀ u ∈ evCp t, u.oneCell' = true := by
  intro u hu
  simp [evCp] at hu
  rcases hu with rfl | rfl | rfl <;> rfl
theorem wpList_append_atP {P : Program} {ops : Array Oper} {rest : List Oper} {o : Oper} {a : Act} {w : World} {Q : Exit → Act → World → Prop} (hgd : o.guard = none) (s x : Operand) (t : TypeId)
    (ho : o.op = .call { callee := .builtin .append, args := #[s, x], argTypes := #[t, t] })
    (base : Nat) (e : TypeId) (i : TypeInfo) (z : Value) (size bytes : Nat) (ht : P.underlying t = some (.slice e)) (hi : P.info? e = some i) (hz : i.zero = some z)
    (hsize : i.size = size) (hby : i.bytes = bytes) (hzs : z.cells.size = size) (hsz : 0 < size)
    (v : Value) (n : Nat) (xs : List Value) (hs : a.eval s = v) (hown : w.ownsRow base e size v n xs)
    (ad : Addr) (m c : Nat) (news : List Value) (hx : a.eval x = .slice (some ad) m c) (hl : news.length = m * size) (hnews : ∀ j u, news[j]? = some u → w.cell? (ad.add j) = some u) (h1 : ∀ u ∈ news, u.oneCell' = true)
    (h63 : n + m ≤ maxLen) (hbytes : (n + m) * bytes ≤ 140737488355328) (hbase : base ≤ w.heap.size)
    (h : ∀ v' w', w'.ownsRow base e size v' (n + m) (xs ++ news) → w.grownBy w' v.ownBlock → (v'.ownBlock = v.ownBlock ∨ v'.ownBlock = some w.heap.size) → wpList P ops Q rest (a.put o.dst v') w') : wpList P ops Q (o :: rest) a w := by
  refine wpList_plain hgd fun K hK => ?_
  obtain ⟨v', w', hr, k1, k2, k3, k4⟩ := run_append_own_at (P := P) w base t o.type e i z size bytes ht hi hz hsize hby hzs hsz v n xs hown ad m c news hl hnews h1 h63 hbytes hbase
  unfold Oper.wp execOp
  simp only [ho, resolve, invoke, builtin, Sem.run_bind, Sem.run_pure, Result.andThen_ok, List.map_toArray, List.map_cons, List.map_nil, hs, hx, hr]
  exact hK _ _ (h v' w' k1 k2 k4)
theorem own_shapeP {w : World} {base : Nat} {e : TypeId} {size : Nat} {v : Value} {n : Nat} {xs : List Value} (h : w.ownsRow base e size v n xs) : ∃ a c, v = .slice a n c := by
  obtain ⟨_, ⟨rfl, rfl⟩ | ⟨b, cap, cur, rfl, _⟩⟩ := h
  · exact ⟨_, _, rfl⟩
  · exact ⟨_, _, rfl⟩
set_option maxHeartbeats 1600000 in
theorem add_is (pb : Nat) (s : ByteArray) (p : Nat) (L : List Ev) (O : List ByteArray) (t : Ev) (w : World) (h : PState w pb s p L O) (hL : L.length ≤ 100000) :
    Calls Tryd.prog 24 #[.pointer (some ⟨pb, 0, none⟩), .int .i64 t.kind, .string t.name, .string t.value] w fun e w' => e = .returned (.tuple #[]) ∧ PState w' pb s p (L ++ [t]) O ∧ Below pb w w' := by
  obtain ⟨ev, op, hc, hE, hO, hA⟩ := h
  obtain ⟨ea, ec, hev⟩ := own_shapeP hE
  subst hev
  have HEV : Hid (∃ v, v = Value.slice ea L.length ec) := ⟨_, rfl⟩
  have HC : Hid (PCells w pb s p (.slice ea L.length ec) op) := hc
  have HE : Hid (w.ownsRow (pb + 1) 31 3 (.slice ea L.length ec) L.length (evsCp L)) := hE
  have HO : Hid (w.ownsRow (pb + 1) 9 1 op O.length (strsCp O)) := hO
  have HA : Hid (∀ k, (Value.slice ea L.length ec).ownBlock = some k → op.ownBlock ≠ some k) := hA
  obtain ⟨h0, h1, h2, h3, h4, h5, h6, h7⟩ := hc
  obtain ⟨i0, hi0, hz0, hz1, hz2⟩ := info_partsP infoEvP
  clear hE hO hA
  go_enter Tryd.func24, Tryd.ntmps24
  go_wp2_with (first | (at_builtin; refine wpList_append_atP rfl (.tmp 12) (.tmp 17) 23 rfl (pb + 1) 31 i0 _ 3 40 Tryd.underlying23 hi0 hz0 hz1 hz2 rfl (by decide) _ _ _ rfl (HE.out.alloc _) ⟨w.heap.size, 0, none⟩ 1 1 (evCp t) rfl rfl (elemP_in t) (elemP_one t) (by unfold maxLen; omega) (by omega) (by simp <;> omega) ?_; intro v6 w6 hown6 hgrow6 hk6; obtain ⟨va6, vc6, rfl⟩ := own_shapeP hown6; have hEb : ∀ b, b < w.heap.size → (Value.slice ea L.length ec).ownBlock ≠ some b → w6.heap[b]? = w.heap[b]? := (fun b hb hne => (hgrow6.block b (by simp; omega) (fun e => hne e.symm)).trans (Below.heap_alloc _ _ _ hb)); have hpe : (Value.slice ea L.length ec).ownBlock ≠ some pb := (fun e => by have := (HE.out.lt pb e).1; omega); have hpb := hEb pb h7 hpe; have y0 := (World.cell?_of_block (a := ⟨pb, 0, none⟩) hpb).trans h0; have y1 := (World.cell?_of_block (a := ⟨pb, 1, none⟩) hpb).trans h1; have y2 := (World.cell?_of_block (a := ⟨pb, 2, none⟩) hpb).trans h2; have y3 := (World.cell?_of_block (a := ⟨pb, 3, none⟩) hpb).trans h3; have y4 := (World.frozen?_of_block (a := ⟨pb, 1, none⟩) hpb).trans h4; have y5 := (World.frozen?_of_block (a := ⟨pb, 2, none⟩) hpb).trans h5; have y6 := (World.frozen?_of_block (a := ⟨pb, 3, none⟩) hpb).trans h6; have hsz : w.heap.size + 1 ≤ w6.heap.size := (by have := hgrow6.size; simpa using this); have y7 : pb < w6.heap.size := (by omega); have HEB : Hid (∀ b, b < w.heap.size → (Value.slice ea L.length ec).ownBlock ≠ some b → w6.heap[b]? = w.heap[b]?) := hEb; have HV6 : Hid (w6.ownsRow (pb + 1) 31 3 (.slice va6 (L.length + 1) vc6) (L.length + 1) (evsCp L ++ evCp t)) := hown6; have HK6 : Hid ((Value.slice va6 (L.length + 1) vc6).ownBlock = (Value.slice ea L.length ec).ownBlock ∨ (Value.slice va6 (L.length + 1) vc6).ownBlock = some (w.heap.size + 1)) := (by have h := hk6; rw [show (w.alloc (.cells #[.int .i64 t.kind, .string t.name, .string t.value] 31)).heap.size = w.heap.size + 1 by simp] at h; exact h); have HG6 : Hid (w6.os = w.os ∧ w6.tape = w.tape ∧ w6.output = w.output) := ⟨hgrow6.os, hgrow6.tape, hgrow6.output⟩; clear hown6 hgrow6 hk6 hEb hpb))
  go_end0
  refine ⟨rfl, ⟨.slice va6 (L.length + 1) vc6, op, ⟨by simp [go_sem, y0], by simp [go_sem, y1], by simp [go_sem, y2], by simp [go_sem, y3], by simp [go_sem, y4], by simp [go_sem, y5], by simp [go_sem, y6], by simpa using y7⟩, ?_, ?_, ?_⟩, ?_⟩
  · have h := own_keepP HV6.out (w' := w6.setCell ⟨pb, 2, none⟩ (.slice va6 (L.length + 1) vc6)) (fun b k1 k2 _ => Below.heap_setCell _ _ _ _ (by simp; omega))
    rw [show (L ++ [t]).length = L.length + 1 by simp, show evsCp (L ++ [t]) = evsCp L ++ evCp t by simp [evsCp]]
    exact h
  · exact own_keepP HO.out (fun b k1 k2 k3 => (Below.heap_setCell _ _ _ _ (by simp; omega)).trans (HEB.out b k2 (fun e => HA.out b e k3)))
  · intro k hk e
    rcases HK6.out with h | h
    · rw [h] at hk; exact HA.out k hk e
    · rw [h] at hk
      have := (HO.out.lt k e).2
      simp at hk
      omega
  · refine ⟨HG6.out.1, HG6.out.2.1, HG6.out.2.2, by simp; omega, fun b k1 => (Below.heap_setCell _ _ _ _ (by simp; omega)).trans (HEB.out b (by omega) (fun e => by have := (HE.out.lt b e).1; omega))⟩
end Go.Proofs.YtoifdcipialciaaDoor
