/-
  CONTRACT of the document's answer SortedOf.
-/
import Derived.Test.YtdmleoiihfipnaaDoorRlIns
import Derived.Test.YtdmleoiihfipnaaDoorRlChain
import Derived.Deep.RegionHeld3
import Derived.Laws.OwnMore
import Derived.Maps.AppendAt
import Derived.OwnWalk
set_option linter.unusedVariables false
namespace Go.Proofs.YtdmleoiihfipnaaDoor
set_option maxRecDepth 100000
open Go.RowKit Go.WideShapes

/-- a store into a row of one's own -/
theorem own_set {w : World} {base g n cap : Nat} {e : TypeId} {xs : List Value} (h : w.ownsRow base e 1 (.slice (some ⟨g, 0, none⟩) n cap) n xs) (t : Nat) (ht : t < n) (u : Value) : (w.setCell ⟨g, t, none⟩ u).ownsRow base e 1 (.slice (some ⟨g, 0, none⟩) n cap) n (xs.set t u) := by
  obtain ⟨h1, ⟨h2, _⟩ | ⟨g', cap', cur, h2, h3, h4, h5, h6, h7, h8⟩⟩ := h
  · cases h2
  · simp only [Value.slice.injEq, Option.some.injEq, Addr.mk.injEq, and_true, true_and] at h2
    obtain ⟨rfl, rfl⟩ := h2
    refine ⟨by simpa using h1, .inr ⟨g, cap, cur.setIfInBounds t u, rfl, h3, ?_, h5, h6, by simpa using h7, ?_⟩⟩
    · rw [Go.Sort.setCell_eq]
      simp [Go.Sort.mapBlock, Array.getElem?_modify, h4, Go.Sort.onCells]
    · rw [Array.toList_setIfInBounds, ← h8]
      simp only [Nat.mul_one]
      exact List.take_set
theorem own_cell {w : World} {base g n cap : Nat} {e : TypeId} {xs : List Value} (h : w.ownsRow base e 1 (.slice (some ⟨g, 0, none⟩) n cap) n xs) {t : Nat} (ht : t < n) {u : Value} (hu : xs[t]? = some u) : w.cell? ⟨g, t, none⟩ = some u ∧ w.frozen? ⟨g, t, none⟩ = false ∧ g < w.heap.size := by
  refine ⟨(h.cellAt t (by omega)).trans hu, ?_⟩
  obtain ⟨h1, ⟨h2, _⟩ | ⟨g', cap', cur, h2, h3, h4, h5, h6, h7, h8⟩⟩ := h
  · cases h2
  · simp only [Value.slice.injEq, Option.some.injEq, Addr.mk.injEq, and_true, true_and] at h2
    obtain ⟨rfl, rfl⟩ := h2
    exact ⟨by simp [World.frozen?, h4], (Array.getElem?_eq_some_iff.1 h4).1⟩
/-- the values of a list -/
def vals (f : Nat → Value) (n : Nat) : List Value := (List.range n).map f
theorem vals_at {f : Nat → Value} {n j : Nat} (hj : j < n) : (vals f n)[j]? = some (f j) := by simp [vals, hj]
theorem vals_set {f g : Nat → Value} {n t : Nat} {u : Value} (ht : t < n) (h : ∀ j, j < n → g j = if j = t then u else f j) : (vals f n).set t u = vals g n := by
  refine List.ext_getElem? fun j => ?_
  rw [List.getElem?_set]
  by_cases hj : j < n
  · by_cases e : t = j
    · subst e
      rw [if_pos rfl, vals_at hj, h t hj, if_pos rfl, if_pos (by simpa [vals] using hj)]
    · rw [if_neg e, vals_at hj, vals_at hj, h j hj, if_neg (fun e' => e e'.symm)]
  · have h1 : (vals f n)[j]? = none := List.getElem?_eq_none (by simp [vals]; omega)
    have h2 : (vals g n)[j]? = none := List.getElem?_eq_none (by simp [vals]; omega)
    by_cases e : t = j
    · omega
    · rw [if_neg e, h1, h2]
theorem rows_fn {w : World} {base : Nat} {v : Value} {m : Nat} {S : Nat → Row} (h : RowsOwn w base v m S) : ∃ f : Nat → Value, w.ownsRow base 34 1 v m (vals f m) ∧ ∀ j, j < m → ItsApart w base v.ownBlock (f j) (S j).len (S j).at_ := by
  obtain ⟨us, h1, h2⟩ := h
  have hl := h1.1
  have he : vals (fun j => us.getD j (.int .i64 0)) m = us := by
    refine List.ext_getElem? fun j => ?_
    by_cases hj : j < m
    · rw [vals_at hj, List.getD_eq_getElem?_getD, List.getElem?_eq_getElem (by omega), Option.getD_some]
    · rw [List.getElem?_eq_none (by simp [vals]; omega), List.getElem?_eq_none (by omega)]
  refine ⟨fun j => us.getD j (.int .i64 0), by rw [he]; exact h1, fun j hj => ?_⟩
  obtain ⟨u, k1, k2⟩ := h2 j hj
  have : us.getD j (.int .i64 0) = u := by rw [List.getD_eq_getElem?_getD, k1, Option.getD_some]
  show ItsApart w base v.ownBlock (us.getD j (.int .i64 0)) (S j).len (S j).at_
  rw [this]
  exact k2
theorem own_some {w : World} {base : Nat} {e : TypeId} {v : Value} {n : Nat} {xs : List Value} (h : w.ownsRow base e 1 v n xs) (hn : 0 < n) : ∃ g cap, v = .slice (some ⟨g, 0, none⟩) n cap ∧ base ≤ g := by
  obtain ⟨_, ⟨_, h0⟩ | ⟨g, cap, cur, rfl, h3, _⟩⟩ := h
  · omega
  · exact ⟨g, cap, rfl, h3⟩
theorem scan_step {Z : Nat → Nat → It} {n x a q : Nat} {L : List Nat} (h : a = q + 1) (hk : keyL Z n x (L.getD q 0) = true) : scanP Z n x L a = scanP Z n x L q := by subst h; rw [scanP, if_pos hk]
theorem scan_stop {Z : Nat → Nat → It} {n x a q : Nat} {L : List Nat} (h : a = q + 1) (hk : keyL Z n x (L.getD q 0) = false) : scanP Z n x L a = a := by subst h; rw [scanP, if_neg (by rw [hk]; decide)]
theorem rows_of {w : World} {base : Nat} {v : Value} {m : Nat} {S : Nat → Row} {f : Nat → Value} (h1 : w.ownsRow base 34 1 v m (vals f m)) (h2 : ∀ j, j < m → ItsApart w base v.ownBlock (f j) (S j).len (S j).at_) : RowsOwn w base v m S := ⟨vals f m, h1, fun j hj => ⟨f j, vals_at hj, h2 j hj⟩⟩
/-- while the rows are moved -/
def shF (f : Nat → Value) (i kk j : Nat) : Value := if kk < j then f (j - 1) else if j < i then f j else .slice none 0 0
theorem sh_start (f : Nat → Value) (i : Nat) : vals f i ++ [.slice none 0 0] = vals (shF f i i) (i + 1) := by
  unfold vals
  rw [List.range_succ, List.map_append]
  congr 1
  · refine List.map_congr_left fun j hj => ?_
    have hj' := List.mem_range.1 hj
    unfold shF
    rw [if_neg (by omega), if_pos hj']
  · unfold shF
    simp
theorem sh_step {f : Nat → Value} {i kk : Nat} (hk : 0 < kk) (hki : kk ≤ i) : (vals (shF f i kk) (i + 1)).set kk (f (kk - 1)) = vals (shF f i (kk - 1)) (i + 1) := by
  refine vals_set (by omega) fun j hj => ?_
  unfold shF
  by_cases e : j = kk
  · subst e
    rw [if_pos rfl, if_pos (by omega)]
  · rw [if_neg e]
    by_cases e2 : kk < j
    · rw [if_pos e2, if_pos (by omega)]
    · rw [if_neg e2, if_neg (by omega)]
/-- at last -/
def inF (f : Nat → Value) (p : Nat) (u : Value) (j : Nat) : Value := if j < p then f j else if j = p then u else f (j - 1)
theorem sh_end {f : Nat → Value} {i p : Nat} {u : Value} (hp : p ≤ i) : (vals (shF f i p) (i + 1)).set p u = vals (inF f p u) (i + 1) := by
  refine vals_set (by omega) fun j hj => ?_
  unfold shF inF
  by_cases e : j = p
  · subst e
    rw [if_neg (by omega), if_pos rfl, if_pos rfl]
  · rw [if_neg e, if_neg e]
    by_cases e2 : j < p
    · rw [if_pos e2, if_neg (by omega), if_pos (by omega)]
    · rw [if_neg e2, if_pos (by omega)]
/-- nothing but one block is turned -/
def But1 (g : Nat) (w wr : World) : Prop := wr.heap.size = w.heap.size ∧ wr.os = w.os ∧ wr.tape = w.tape ∧ wr.output = w.output ∧ ∀ b, b ≠ g → wr.heap[b]? = w.heap[b]?
theorem But1.set {g : Nat} {w wr : World} (h : But1 g w wr) (t : Nat) (u : Value) : But1 g w (wr.setCell ⟨g, t, none⟩ u) := ⟨by simpa using h.1, h.2.1, h.2.2.1, h.2.2.2.1, fun b hb => (Below.heap_setCell _ _ _ _ (by simpa using hb)).trans (h.2.2.2.2 b hb)⟩
theorem But1.below {g B : Nat} {w wr : World} (h : But1 g w wr) (hB : B ≤ g) : Below B w wr := ⟨h.2.1, h.2.2.1, h.2.2.2.1, by rw [h.1]; exact Nat.le_refl _, fun b hb => h.2.2.2.2 b (by omega)⟩
theorem But1.its {g base : Nat} {w wr : World} {u : Value} {n : Nat} {X : Nat → It} (h : But1 g w wr) (hi : ItsApart w base (some g) u n X) : ItsApart wr base (some g) u n X := hi.keep (by rw [h.1]; exact Nat.le_refl _) (fun b _ _ hb => ⟨h.2.2.2.2 b (fun e => hb (by rw [e])), hb⟩)
/-- append to a row of one's own: where the new row lies -/
theorem wpList_append_at {P : Program} {ops : Array Oper} {rest : List Oper} {o : Oper} {a : Act} {w : World} {Q : Exit → Act → World → Prop} (hgd : o.guard = none) (s x : Operand) (t : TypeId)
    (ho : o.op = .call { callee := .builtin .append, args := #[s, x], argTypes := #[t, t] })
    (base : Nat) (e : TypeId) (i : TypeInfo) (z : Value) (size bytes : Nat) (ht : P.underlying t = some (.slice e)) (hi : P.info? e = some i) (hz : i.zero = some z)
    (hsize : i.size = size) (hby : i.bytes = bytes) (hzs : z.cells.size = size) (hsz : 0 < size)
    (v : Value) (n : Nat) (xs : List Value) (hs : a.eval s = v) (hown : w.ownsRow base e size v n xs)
    (ad : Addr) (m c : Nat) (news : List Value) (hx : a.eval x = .slice (some ad) m c) (hl : news.length = m * size) (hnews : ∀ j u, news[j]? = some u → w.cell? (ad.add j) = some u) (h1 : ∀ u ∈ news, u.oneCell' = true)
    (h63 : n + m ≤ maxLen) (hbytes : (n + m) * bytes ≤ 140737488355328) (hbase : base ≤ w.heap.size)
    (h : ∀ v' w', w'.ownsRow base e size v' (n + m) (xs ++ news) → w.grownBy w' v.ownBlock → (v'.ownBlock = v.ownBlock ∨ v'.ownBlock = some w.heap.size) → wpList P ops Q rest (a.put o.dst v') w') : wpList P ops Q (o :: rest) a w := by
  refine wpList_plain hgd fun K hK => ?_
  obtain ⟨v', w', hr, k1, k2, k3, k4⟩ := run_append_own_at (P := P) w base t o.type e i z size bytes ht hi hz hsize hby hzs hsz v n xs hown ad m c news hl hnews h1 h63 hbytes hbase
  unfold Oper.wp execOp
  simp only [ho, resolve, invoke, builtin, Sem.run_bind, Sem.run_pure, Result.andThen_ok, List.map_toArray, List.map_cons, List.map_nil, hs, hx, hr]
  exact hK _ _ (h v' w' k1 k2 k4)
theorem elemV_in {w : World} (u : Value) (T : TypeId) : ∀ j x, ([u] : List Value)[j]? = some x → (w.alloc (.cells #[u] T)).cell? ((⟨w.heap.size, 0, none⟩ : Addr).add j) = some x := by
  intro j x hj
  have hj1 : j < 1 := (List.getElem?_eq_some_iff.1 hj).1
  obtain rfl : j = 0 := by omega
  simp at hj
  subst hj
  simp [Addr.add]
theorem elemV_one (a : Option Addr) (n c : Nat) : ∀ u ∈ ([.slice a n c] : List Value), u.oneCell' = true := by
  intro u hu
  simp at hu
  subst hu
  rfl
theorem apart_push {w1 w2 : World} {base : Nat} {v v' u : Value} {n : Nat} {X : Nat → It} (h : ItsApart w1 base v.ownBlock u n X) (hg : w1.grownBy w2 v.ownBlock) (hk : v'.ownBlock = v.ownBlock ∨ v'.ownBlock = some w1.heap.size) : ItsApart w2 base v'.ownBlock u n X :=
  h.keep hg.size (fun b _ hb hne => ⟨hg.block b hb (fun e => hne e.symm), fun e => by
    rcases hk with hk | hk
    · rw [hk] at e; exact hne e
    · rw [hk] at e; simp only [Option.some.injEq] at e; omega⟩)
set_option maxHeartbeats 12800000 in
theorem sortedOf_is (c q l : Value) (n m ko : Nat) (C O : Nat → ByteArray) (R : Nat → Row) (w : World) (hc : StrsIs w c n C) (hq : RowsIs w q m R) (hf : StrsFine n C) (hg : RowsFine m R) (hl : StrsIs w l ko O) (hfl : StrsFine ko O) (hko : ko * 32 ≤ 140737488351232) (hT : Tabs w) :
    Calls Tryd.prog 7 #[.agg #[c, q], l] w fun e w' => ∃ c1 q1, e = .returned (.tuple #[.agg #[c1, q1], .int .i64 (soF C n R m O ko)]) ∧ StrsIs w' c1 (okN (soF C n R m O ko) n) C ∧ RowsIs w' q1 (okN (soF C n R m O ko) m) (soR R (prP C n O) ko m) ∧ Below w.heap.size w w' := by
  have HW : Hid (∀ {W : World} {o o' : Obj}, Below (w.heap.size + 2) ((w.alloc o).alloc o') W → Below w.heap.size w W) := fun h => (below_two _ _).trans (h.mono (by omega))
  have C1 : Hid (∀ o o', Calls Tryd.prog 16 #[.agg #[c, q]] ((w.alloc o).alloc o') fun e w' => e = .returned (.int .i64 (relF C n R m)) ∧ Below (w.heap.size + 2) ((w.alloc o).alloc o') w') := fun o o' => by
    have h := relFault_is c q n m C R _ (hc.below (below_two o o')) (hq.below (below_two o o')) hf hg (Utf8Tabs_below hT (below_two o o'))
    rwa [show ((w.alloc o).alloc o').heap.size = w.heap.size + 2 by simp] at h
  have hqs : ∃ a x, q = .slice a m x := by obtain ⟨a, x, e, _⟩ := hq; exact ⟨a, x, e⟩
  have CY : Hid ((∀ i, i < ko → colI C n (O i) = (prP C n O i : Int)) → ∀ W, Below w.heap.size w W → Calls Tryd.prog 17 #[.agg #[c, q], l] W fun e w' => ∃ v, e = .returned (.tuple #[v, .bool true]) ∧ IntsIs w' v ko (prP C n O) ∧ (∃ a' c', v = .slice a' ko c') ∧ Below W.heap.size W w') := fun hP W hW => colsAt_yes c q l n m ko C O (prP C n O) W (hc.below hW) hqs (hl.below hW) hP hfl.1
  have CN : Hid (∀ t, t < ko → (∀ i, i < t → colI C n (O i) = (prP C n O i : Int)) → colI C n (O t) = -1 → ∀ W, Below w.heap.size w W → Calls Tryd.prog 17 #[.agg #[c, q], l] W fun e w' => e = .returned (.tuple #[.slice none 0 0, .bool false]) ∧ Below W.heap.size W w') := fun t ht hP hN W hW => colsAt_no c q l n m ko C O (prP C n O) W (hc.below hW) hqs (hl.below hW) t ht hP hN hfl.1
  have HC : Hid (∀ W, Below w.heap.size w W → StrsIs W c n C) := fun W hW => hc.below hW
  have HF : Hid (StrsFine n C) := hf
  obtain ⟨qa, qcap, rfl, q1, q2, _, q3⟩ := hq
  have hmm : m ≤ 9223372036854775807 := by unfold maxLen at q2; omega
  have HQ : Hid (∀ W i, Below w.heap.size w W → i < m → ∃ b off u, qa = some ⟨b, off, none⟩ ∧ b < w.heap.size ∧ W.cell? ⟨b, off + i, none⟩ = some u ∧ ItsIs W u (R i).len (R i).at_ ∧ (R i).len * 32 ≤ 140737488351232) := fun W i hW hi => by
    obtain ⟨b, off, h1, h2, h3⟩ := q3 (by omega)
    obtain ⟨u, h4, h5⟩ := h3 i hi
    exact ⟨b, off, u, h1, h2, (hW.cell (p := ⟨b, off + i, none⟩) h2).trans h4, h5.below hW, (hg.2 i hi).1⟩
  obtain ⟨ca, ccap, rfl, _⟩ := hc
  obtain ⟨la, lcap, rfl, _⟩ := hl
  clear hf hg hT hqs q2 q3 hfl
  by_cases h0 : relF C n R m = 0
  · have hm6 : m ≤ 1000000 := (relF_zero h0).2.1
    have HLEN : Hid (∀ i, i < m → (R i).len = n) := row_len h0
    have HMADE : Hid (∀ k, k ≤ m → madeF C n k = 0) := fun k hk => madeF_ok h0 hk
    have HUF : Hid (soF C n R m O ko = if foundB C n O ko = true then 0 else 9) := if_pos h0
    rw [h0] at C1
    clear h0
    generalize soF C n R m O ko = F at *
    cases hfo : foundB C n O ko
    · have HFF : Hid (F = 9) := HUF.out.trans (if_neg (fun h => by rw [hfo] at h; exact absurd h (by decide)))
      obtain ⟨t, t1, t2, t3⟩ := found_no hfo
      have CC : Hid (∀ W, Below w.heap.size w W → Calls Tryd.prog 17 #[.agg #[.slice ca n ccap, .slice qa m qcap], .slice la ko lcap] W fun e w' => e = .returned (.tuple #[.slice none 0 0, .bool false]) ∧ Below W.heap.size W w') := CN.out t t1 t3 t2
      clear t1 t2 t3 CY CN hfo HUF
      go_enter Tryd.func7, Tryd.ntmps7
      go_wp2_with (first
        | (go_at_call 16; refine (C1.out _ _).mono ?_; rintro e w1 ⟨rfl, hb1⟩; have HB1 : Hid (Below (w.heap.size + 2) ((w.alloc (.cells #[.slice ca n ccap, .slice qa m qcap] 25)).alloc (.cells #[.slice none 0 0, .slice none 0 0] 25)) w1) := hb1; obtain ⟨x0, x1, x2, x3, x4, x5, x6⟩ := box2r hb1; clear hb1)
        | (go_at_call 17; refine (CC.out _ (HW.out HB1.out)).mono ?_; rintro e w2 ⟨rfl, hb2⟩; have HB2 : Hid (Below (w.heap.size + 2) ((w.alloc (.cells #[.slice ca n ccap, .slice qa m qcap] 25)).alloc (.cells #[.slice none 0 0, .slice none 0 0] 25)) w2) := HB1.out.trans (hb2.mono (by omega)); clear x0 x1 x2 x3 x4 x5 x6; obtain ⟨x0, x1, x2, x3, x4, x5, x6⟩ := box2r HB2.out; clear hb2))
      refine bodyPost_ret (v := .tuple #[.agg #[.slice none 0 0, .slice none 0 0], .int .i64 9]) (by simp [results, Tryd.results7, go_sem, x2, x3]) rfl ⟨_, _, by rw [HFF.out], ?_, ?_, (((HW.out HB2.out)).setCell (by simp <;> omega) _).setCell (by simp <;> omega) _⟩
      · rw [HFF.out]; exact nil_strs _ _
      · rw [HFF.out]; exact nil_rows _ _
    · have CC : Hid (∀ W, Below w.heap.size w W → Calls Tryd.prog 17 #[.agg #[.slice ca n ccap, .slice qa m qcap], .slice la ko lcap] W fun e w' => ∃ v, e = .returned (.tuple #[v, .bool true]) ∧ IntsIs w' v ko (prP C n O) ∧ (∃ a' c', v = .slice a' ko c') ∧ Below W.heap.size W w') := CY.out (fun i hi => (found_yes hfo i hi).1)
      have HPN : Hid (∀ i, i < ko → prP C n O i < n) := fun i hi => (found_yes hfo i hi).2
      have HF0 : Hid (F = 0) := HUF.out.trans (if_pos hfo)
      clear CY CN hfo HUF
      generalize prP C n O = P at *
      go_enter Tryd.func7, Tryd.ntmps7
      go_wp2_with (first
        | (go_at_call 16; refine (C1.out _ _).mono ?_; rintro e w1 ⟨rfl, hb1⟩; have HB1 : Hid (Below (w.heap.size + 2) ((w.alloc (.cells #[.slice ca n ccap, .slice qa m qcap] 25)).alloc (.cells #[.slice none 0 0, .slice none 0 0] 25)) w1) := hb1; obtain ⟨x0, x1, x2, x3, x4, x5, x6⟩ := box2r hb1; clear hb1)
        | (go_at_call 17; refine (CC.out _ (HW.out HB1.out)).mono ?_; rintro e w2 ⟨v2, rfl, hi2, hsh2, hb2⟩; obtain ⟨pa, pc, rfl⟩ := hsh2; have HI2 : Hid (IntsIs w2 (.slice pa ko pc) ko P) := hi2; have HB2 : Hid (Below (w.heap.size + 2) ((w.alloc (.cells #[.slice ca n ccap, .slice qa m qcap] 25)).alloc (.cells #[.slice none 0 0, .slice none 0 0] 25)) w2) := HB1.out.trans (hb2.mono (by omega)); clear x0 x1 x2 x3 x4 x5 x6; obtain ⟨x0, x1, x2, x3, x4, x5, x6⟩ := box2r HB2.out; clear hb2 hi2))
      have hx6 : w.heap.size + 1 < w2.heap.size := x6
      have mixed : Tryd.prog.follows .mixedOrders = true := by kernel_rfl
      obtain ⟨Z, hZ⟩ : ∃ Z : Nat → Nat → It, Z = fun i t => (R i).at_ (P t) := ⟨_, rfl⟩
      have HZ : Hid (∀ i, Z i = fun t => (R i).at_ (P t)) := fun i => by rw [hZ]
      have HSO : Hid (∀ j, soR R P ko m j = R (insF Z ko m j)) := fun j => by rw [insF_ord, hZ]; rfl
      obtain ⟨i0, hi0, hz0, hz1, hz2⟩ := info_parts infoItems
      clear hZ
      go_loopw [9, 10] (fun v i wr => ∃ j : Nat, j ≤ m ∧ i = .int .i64 j ∧ RowsOwn wr w2.heap.size v j (fun t => R (insF Z ko j t)) ∧ Below w2.heap.size w2 wr) (fun _ i _ => m - (intOf i).toNat)
      case atStart => exact ⟨0, Nat.zero_le _, rfl, RowsOwn.nil _ _ _, Below.refl _ _⟩
      case round =>
        obtain ⟨j, hj, rfl, hrow, hbr⟩ := hrel
        have HB4 : Hid (Below (w.heap.size + 2) ((w.alloc (.cells #[.slice ca n ccap, .slice qa m qcap] 25)).alloc (.cells #[.slice none 0 0, .slice none 0 0] 25)) wr) := HB2.out.trans (hbr.mono (by omega))
        have HBR : Hid (Below w2.heap.size w2 wr) := hbr
        have hzr : w2.heap.size ≤ wr.heap.size := hbr.size
        clear x0 x1 x2 x3 x4 x5 x6
        obtain ⟨x0, x1, x2, x3, x4, x5, x6⟩ := box2r HB4.out
        obtain ⟨ra, rc, rfl⟩ := hrow.shape
        have HROW : Hid (RowsOwn wr w2.heap.size (.slice ra j rc) j (fun t => R (insF Z ko j t))) := hrow
        clear hrow hbr
        by_cases hjl : j < m
        · have hji : (j : Int) < (m : Int) := by omega
          obtain ⟨b, off, u, rfl, hb0, e1, hu, hu32⟩ := HQ.out wr j (HW.out HB4.out) hjl
          have hbz : b < wr.heap.size := by omega
          rw [HLEN.out j hjl] at hu hu32
          have HU : Hid (ItsIs wr u n (R j).at_) := hu
          obtain ⟨ua, ucap, rfl, _⟩ := HU.out
          clear hu
          go_wp2_with (first
            | (go_at_call 18; refine (items_one wr.heap.size 0 1 (.slice ua n ucap) n (R j).at_ _ (Nat.le_refl _) (by unfold maxLen; omega) (by simp) (by simp) (HU.out.alloc _) hu32).mono ?_; rintro e w5 ⟨v5, rfl, hi5, hsh5, hb5⟩; obtain ⟨va5, vc5, rfl⟩ := hsh5; have HI5 : Hid (ItsApart w5 w2.heap.size (Value.slice ra j rc).ownBlock (.slice va5 n vc5) n (R j).at_) := hi5.weaken (by simp; omega) (fun z hz => by have := (HROW.out.lt z hz).2; simp; omega); have HR5 : Hid (RowsOwn w5 w2.heap.size (.slice ra j rc) j (fun t => R (insF Z ko j t))) := (HROW.out.alloc _).below hb5; have HB5 : Hid (Below w2.heap.size w2 w5) := HBR.out.trans (((Below.refl _ _).alloc (by omega) _).trans (hb5.mono (by simp; omega))); have hz5 : w2.heap.size ≤ w5.heap.size := HB5.out.size; clear hi5 hb5))
          clear x0 x1 x2 x3 x4 x5 x6 e1 hbz HB4 HU HROW HBR
          go_loopw [12] (fun v wr => ∃ a : Nat, a ≤ j ∧ v = .int .i64 a ∧ scanP Z ko j (insL Z ko j) a = scanP Z ko j (insL Z ko j) j ∧ Chain w5 wr) (fun v _ => (intOf v).toNat)
          case atStart => exact ⟨j, Nat.le_refl _, rfl, rfl, Chain.refl _⟩
          case round =>
            obtain ⟨a, haj, rfl, hsc, hch⟩ := hrel
            have HCH : Hid (Chain w5 wr) := hch
            have hz56 : w5.heap.size ≤ wr.heap.size := Below.size hch
            have HSC : Hid (scanP Z ko j (insL Z ko j) a = scanP Z ko j (insL Z ko j) j) := hsc
            clear hsc
            have hstop : a = 0 ∨ (0 < a ∧ keyL Z ko j (insF Z ko j (a - 1)) = false) ∨ (0 < a ∧ keyL Z ko j (insF Z ko j (a - 1)) = true) := by
              rcases Nat.eq_zero_or_pos a with h | h
              · exact .inl h
              · cases e : keyL Z ko j (insF Z ko j (a - 1))
                · exact .inr (.inl ⟨h, rfl⟩)
                · exact .inr (.inr ⟨h, rfl⟩)
            rcases hstop with h | ⟨h, hk⟩ | ⟨h, hk⟩
            · subst h
              have HPP : Hid (scanP Z ko j (insL Z ko j) j = 0) := HSC.out.symm
              rw [show ((0 : Nat) : Int) = 0 from rfl]
              go_upto_region 13 with fail
              go_quiet (fail)
              obtain ⟨w7, hw7⟩ : ∃ W, W = wr.drewN nq := ⟨_, rfl⟩
              have HN7 : Hid (Chain w5 w7) := by
                have h : Chain w5 w7 := by rw [hw7]; exact below_drawn hch nq
                exact h
              rw [← hw7]
              clear hw7 hch
              have HR7 : Hid (RowsOwn w7 w2.heap.size (.slice ra j rc) j (fun t => R (insF Z ko j t))) := HR5.out.below HN7.out
              have HI7 : Hid (ItsApart w7 w2.heap.size (Value.slice ra j rc).ownBlock (.slice va5 n vc5) n (R j).at_) := HI5.out.keep (Below.size HN7.out) (fun b _ hb hne => ⟨Below.block HN7.out b hb, hne⟩)
              have hz7 : w2.heap.size ≤ w7.heap.size := Nat.le_trans hz5 (Below.size HN7.out)
              obtain ⟨f, hf1, hf2⟩ := rows_fn HR7.out
              have HF1 : Hid (w7.ownsRow w2.heap.size 34 1 (.slice ra j rc) j (vals f j)) := hf1
              have HF2 : Hid (∀ t, t < j → ItsApart w7 w2.heap.size (Value.slice ra j rc).ownBlock (f t) (R (insF Z ko j t)).len (R (insF Z ko j t)).at_) := hf2
              have hwj : IntKind.i64.wrap (j : Int) = (j : Int) := IntWalk.i64_in _ (by omega)
              clear hf1 hf2
              go_wp2_with (at_builtin; refine wpList_append_at rfl (.tmp 65) (.tmp 66) 23 rfl w2.heap.size 34 i0 _ 1 24 Tryd.underlying23 hi0 hz0 hz1 hz2 rfl (by decide) _ _ _ rfl (HF1.out.alloc _) ⟨w7.heap.size, 0, none⟩ 1 1 [.slice none 0 0] rfl rfl (elemV_in _ _) (elemV_one _ _ _) (by unfold maxLen; omega) (by omega) (by simp <;> omega) ?_; intro v8 w8 hown8 hgrow8 hk8; obtain ⟨g, cap8, rfl, hbg⟩ := own_some hown8 (by omega); have HV8 : Hid (w8.ownsRow w2.heap.size 34 1 (.slice (some ⟨g, 0, none⟩) (j + 1) cap8) (j + 1) (vals (shF f j j) (j + 1))) := (by rw [← sh_start]; exact hown8); have HF8 : Hid (∀ t, t < j → ItsApart w8 w2.heap.size (some g) (f t) (R (insF Z ko j t)).len (R (insF Z ko j t)).at_) := (fun t ht => apart_push (v' := .slice (some ⟨g, 0, none⟩) (j + 1) cap8) ((HF2.out t ht).alloc _) hgrow8 hk8); have HI8 : Hid (ItsApart w8 w2.heap.size (some g) (.slice va5 n vc5) n (R j).at_) := apart_push (v' := .slice (some ⟨g, 0, none⟩) (j + 1) cap8) (HI7.out.alloc _) hgrow8 hk8; have HB8 : Hid (Below w2.heap.size w2 w8) := (((HB5.out.trans (Below.mono HN7.out hz5)).alloc (by omega) _).grown hgrow8 (by simp <;> omega) (fun z hz => (HF1.out.lt z hz).1)); clear hown8 hgrow8 hk8)
              go_loopw [13] (fun v wr => ∃ kk : Nat, 0 ≤ kk ∧ kk ≤ j ∧ v = .int .i64 kk ∧ wr.ownsRow w2.heap.size 34 1 (.slice (some ⟨g, 0, none⟩) (j + 1) cap8) (j + 1) (vals (shF f j kk) (j + 1)) ∧ But1 g w8 wr) (fun v _ => (intOf v).toNat)
              case atStart => exact ⟨j, Nat.zero_le _, Nat.le_refl _, by simp, HV8.out, rfl, rfl, rfl, rfl, fun b _ => rfl⟩
              case round =>
                obtain ⟨kk, hak, hkj, rfl, hown, hbut⟩ := hrel
                have HOW : Hid (wr.ownsRow w2.heap.size 34 1 (.slice (some ⟨g, 0, none⟩) (j + 1) cap8) (j + 1) (vals (shF f j kk) (j + 1))) := hown
                have HBU : Hid (But1 g w8 wr) := hbut
                clear hown hbut
                by_cases hgo : 0 < kk
                · obtain ⟨q, hq⟩ : ∃ q, kk = q + 1 := ⟨kk - 1, by omega⟩
                  have hshq : shF f j kk q = f q := by unfold shF; rw [if_neg (by omega), if_pos (by omega)]
                  obtain ⟨e1, _, _⟩ := own_cell HOW.out (t := q) (by omega) (vals_at (by omega))
                  obtain ⟨e2, e3, e4⟩ := own_cell HOW.out (t := kk) (by omega) (vals_at (by omega))
                  rw [hshq] at e1
                  have HFQ : Hid ((vals (shF f j kk) (j + 1)).set kk (f q) = vals (shF f j q) (j + 1)) := by
                    have h := sh_step (f := f) (i := j) (kk := kk) (by omega) hkj
                    rw [show kk - 1 = q by omega] at h
                    exact h
                  obtain ⟨fa, fc, hfe, _⟩ := HF8.out q (by omega)
                  rw [hfe] at e1 HFQ
                  have hqi : (0 : Int) < (kk : Int) := by omega
                  have hkl : (kk : Int) < (j : Int) + 1 := by omega
                  have hql : (q : Int) < (j : Int) + 1 := by omega
                  have hwq : IntKind.i64.wrap ((kk : Int) - 1) = (q : Int) := by rw [hq]; simp; exact IntWalk.i64_in _ (by omega)
                  have HQ2 : Hid (kk = q + 1) := hq
                  clear hq hshq hfe
                  generalize shF f j kk kk = ov at *
                  go_wp2_with fail
                  go_roundw
                  case rel => exact ⟨q, by have := HQ2.out; omega, by have := HQ2.out; omega, by go_num, by rw [← HFQ.out]; exact own_set HOW.out kk (by omega) _, HBU.out.set _ _⟩
                  case measure => have := HQ2.out; simp [intOf]; omega
                · have e : kk = 0 := by omega
                  subst e
                  rw [show ((0 : Nat) : Int) = 0 from rfl]
                  obtain ⟨e2, e3, e4⟩ := own_cell HOW.out (t := 0) (by omega) (vals_at (by omega))
                  have HEND : Hid ((vals (shF f j 0) (j + 1)).set 0 (.slice va5 n vc5) = vals (inF f 0 (.slice va5 n vc5)) (j + 1)) := sh_end hkj
                  have hkl : (0 : Int) < (j : Int) + 1 := by omega
                  generalize shF f j 0 0 = ov at *
                  go_wp2_with fail
                  go_roundw
                  case rel =>
                    refine ⟨j + 1, by omega, by go_num, rows_of (f := inF f 0 (.slice va5 n vc5)) (by rw [← HEND.out]; exact own_set HOW.out 0 (by omega) _) (fun t ht => ?_), HB8.out.trans (((HBU.out.set _ _).below hbg))⟩
                    have hs := insF_succ Z ko j t ht
                    rw [HPP.out] at hs
                    show ItsApart _ _ _ _ (R (insF Z ko (j + 1) t)).len (R (insF Z ko (j + 1) t)).at_
                    rw [hs]
                    unfold inF
                    by_cases h1 : t < 0
                    · rw [if_pos h1, if_pos h1]; exact (HBU.out.set _ _).its (HF8.out t (by omega))
                    · rw [if_neg h1, if_neg h1]
                      by_cases h2 : t = 0
                      · rw [if_pos h2, if_pos h2, HLEN.out j hjl]; exact (HBU.out.set _ _).its HI8.out
                      · rw [if_neg h2, if_neg h2]; exact (HBU.out.set _ _).its (HF8.out (t - 1) (by omega))
                  case measure => simp [intOf]; omega
            · have HPP : Hid (scanP Z ko j (insL Z ko j) j = a) := HSC.out.symm.trans (scan_stop (show a = (a - 1) + 1 by omega) hk)
              obtain ⟨q, hq⟩ : ∃ q, a = q + 1 := ⟨a - 1, by omega⟩
              rw [show a - 1 = q by omega] at hk
              have hir := (HR5.out.below HCH.out).is
              obtain ⟨a2, c2, e2', _, _, _, p3⟩ := hir
              cases e2'
              obtain ⟨g0, go0, rfl, hgz, p4⟩ := p3 (by omega)
              obtain ⟨u2, e2, hu2⟩ := p4 q (by omega)
              have hjq : insF Z ko j q < m := Nat.lt_trans (insF_lt (by omega)) hjl
              have HU2 : Hid (ItsIs wr u2 n (R (insF Z ko j q)).at_) := by
                have h : ItsIs wr u2 (R (insF Z ko j q)).len (R (insF Z ko j q)).at_ := hu2
                rw [HLEN.out _ hjq] at h
                exact h
              obtain ⟨ua2, ucap2, rfl, _⟩ := HU2.out
              have HUR : Hid (ItsIs wr (.slice va5 n vc5) n (R j).at_) := (HI5.out.is).below HCH.out
              have hai : (0 : Int) < (a : Int) := by omega
              have hqi : (q : Int) < (j : Int) := by omega
              have hwq : IntKind.i64.wrap ((a : Int) - 1) = (q : Int) := by rw [hq]; simp; exact IntWalk.i64_in _ (by omega)
              have HAQ : Hid (a = q + 1) := hq
              have HKL : Hid (decide (keyC (fun t => (R j).at_ (P t)) (fun t => (R (insF Z ko j q)).at_ (P t)) ko < 0) = false) := by
                have h : keyL Z ko j (insF Z ko j q) = false := hk
                unfold keyL at h
                rw [HZ.out, HZ.out] at h
                exact h
              have HKQ : Hid (keyL Z ko j ((insL Z ko j).getD q 0) = false) := hk
              have HCW : Hid (∀ W, Chain wr W → Below w2.heap.size w2 W) := fun W h => HB5.out.trans (Below.mono (HCH.out.trans h) hz5)
              have CP1 : Hid (∀ W, Chain wr W → Calls Tryd.prog 20 #[.slice va5 n vc5, .slice pa ko pc] W fun e w' => ∃ a x, e = .returned (.slice a ko x) ∧ ItsIs w' (.slice a ko x) ko (fun t => (R j).at_ (P t)) ∧ Chain W w' ∧ Chain wr w') := fun W h => (picks_is (.slice va5 n vc5) (.slice pa ko pc) n ko (R j).at_ P W (HUR.out.below h) (HI2.out.below (HCW.out W h)) HPN.out hko).mono (fun e w' ⟨v, h1, h2, ⟨a, x, h3⟩, h4⟩ => by subst h3; exact ⟨a, x, h1, h2.is, h4, h.trans h4⟩)
              have CP2 : Hid (∀ W, Chain wr W → Calls Tryd.prog 20 #[.slice ua2 n ucap2, .slice pa ko pc] W fun e w' => ∃ a x, e = .returned (.slice a ko x) ∧ ItsIs w' (.slice a ko x) ko (fun t => (R (insF Z ko j q)).at_ (P t)) ∧ Chain W w' ∧ Chain wr w') := fun W h => (picks_is (.slice ua2 n ucap2) (.slice pa ko pc) n ko (R (insF Z ko j q)).at_ P W (HU2.out.below h) (HI2.out.below (HCW.out W h)) HPN.out hko).mono (fun e w' ⟨v, h1, h2, ⟨a, x, h3⟩, h4⟩ => by subst h3; exact ⟨a, x, h1, h2.is, h4, h.trans h4⟩)
              generalize (fun t => (R j).at_ (P t)) = Y1 at CP1 HKL
              generalize (fun t => (R (insF Z ko j q)).at_ (P t)) = Y2 at CP2 HKL
              have CS : Hid (∀ W v5 v6, Chain wr W → ItsIs W v5 ko Y1 → ItsIs W v6 ko Y2 → Calls Tryd.prog 19 #[v5, v6] W fun e w' => e = .returned (.bool false) ∧ Chain wr w') := fun W v5 v6 h h1 h2 => (lessItems_is v5 v6 ko Y1 Y2 W h1 h2).mono (fun e w' ⟨h3, h4⟩ => ⟨by rw [h3, HKL.out], h.trans h4⟩)
              have HS : Hid (∀ W, Chain wr W → W.cell? ⟨g0, go0 + q, none⟩ = some (.slice ua2 n ucap2)) := fun W h => (Below.cell h (p := ⟨g0, go0 + q, none⟩) hgz).trans e2
              clear p3 p4 hu2 hq hk hch hgz e2
              go_upto_region 13 with fail
              go_region_held3 (fun W => W.cell? ⟨g0, go0 + q, none⟩ = some (.slice ua2 n ucap2))
                ((refine HS.out _ ?_; repeat (first | exact Hid.out (by assumption) | exact Chain.refl _ | refine Chain.drew ?_)))
                (first
                  | (go_at_call_has 20 (Value.slice va5 n vc5); refine (CP1.out _ ?_).mono ?_; (focus (repeat (first | exact Hid.out (by assumption) | exact Chain.refl _ | refine Chain.alloc ?_ _ | refine Chain.drew ?_))); rintro e w6 ⟨va6, vc6, rfl, hi6, hb6, hn6⟩; have HI6 : Hid (ItsIs w6 (.slice va6 ko vc6) ko Y1) := hi6; have HCH6 : Hid (Chain _ w6) := hb6; have HN6 : Hid (Chain wr w6) := hn6; clear hi6 hb6 hn6)
                  | (go_at_call_has 20 (Value.slice ua2 n ucap2); refine (CP2.out _ ?_).mono ?_; (focus (repeat (first | exact Hid.out (by assumption) | exact Chain.refl _ | refine Chain.alloc ?_ _ | refine Chain.drew ?_))); rintro e w9 ⟨va9, vc9, rfl, hi9, hb9, hn9⟩; have HI9 : Hid (ItsIs w9 (.slice va9 ko vc9) ko Y2) := hi9; have HCH9 : Hid (Chain _ w9) := hb9; have HN9 : Hid (Chain wr w9) := hn9; clear hi9 hb9 hn9)
                  | (go_at_call 19; refine (CS.out _ _ _ ?_ ?_ ?_).mono ?_; (focus (repeat (first | exact Hid.out (by assumption) | exact Chain.refl _ | refine Chain.alloc ?_ _ | refine Chain.drew ?_))); (focus (repeat (first | exact HI6.out | refine ItsIs.below ?_ HCH9.out))); (focus (repeat (first | exact HI9.out | refine ItsIs.below ?_ HCH6.out))); rintro e w7 ⟨rfl, hn7⟩; have HN7w : Hid (Chain wr w7) := hn7; have HN7 : Hid (Chain w5 w7) := HCH.out.trans hn7; clear hn7))
              all_goals
                clear HN6 HN9 HCH6 HCH9 HI6 HI9 HN7w
                go_split_ands
                have HR7 : Hid (RowsOwn w7 w2.heap.size (.slice (some ⟨g0, go0, none⟩) j rc) j (fun t => R (insF Z ko j t))) := HR5.out.below HN7.out
                have HI7 : Hid (ItsApart w7 w2.heap.size (Value.slice (some ⟨g0, go0, none⟩) j rc).ownBlock (.slice va5 n vc5) n (R j).at_) := HI5.out.keep (Below.size HN7.out) (fun b _ hb hne => ⟨Below.block HN7.out b hb, hne⟩)
                have hz7 : w2.heap.size ≤ w7.heap.size := Nat.le_trans hz5 (Below.size HN7.out)
                obtain ⟨f, hf1, hf2⟩ := rows_fn HR7.out
                have HF1 : Hid (w7.ownsRow w2.heap.size 34 1 (.slice (some ⟨g0, go0, none⟩) j rc) j (vals f j)) := hf1
                have HF2 : Hid (∀ t, t < j → ItsApart w7 w2.heap.size (Value.slice (some ⟨g0, go0, none⟩) j rc).ownBlock (f t) (R (insF Z ko j t)).len (R (insF Z ko j t)).at_) := hf2
                have hwj : IntKind.i64.wrap (j : Int) = (j : Int) := IntWalk.i64_in _ (by omega)
                clear hf1 hf2
                go_wp2_with (at_builtin; refine wpList_append_at rfl (.tmp 65) (.tmp 66) 23 rfl w2.heap.size 34 i0 _ 1 24 Tryd.underlying23 hi0 hz0 hz1 hz2 rfl (by decide) _ _ _ rfl (HF1.out.alloc _) ⟨w7.heap.size, 0, none⟩ 1 1 [.slice none 0 0] rfl rfl (elemV_in _ _) (elemV_one _ _ _) (by unfold maxLen; omega) (by omega) (by simp <;> omega) ?_; intro v8 w8 hown8 hgrow8 hk8; obtain ⟨g, cap8, rfl, hbg⟩ := own_some hown8 (by omega); have HV8 : Hid (w8.ownsRow w2.heap.size 34 1 (.slice (some ⟨g, 0, none⟩) (j + 1) cap8) (j + 1) (vals (shF f j j) (j + 1))) := (by rw [← sh_start]; exact hown8); have HF8 : Hid (∀ t, t < j → ItsApart w8 w2.heap.size (some g) (f t) (R (insF Z ko j t)).len (R (insF Z ko j t)).at_) := (fun t ht => apart_push (v' := .slice (some ⟨g, 0, none⟩) (j + 1) cap8) ((HF2.out t ht).alloc _) hgrow8 hk8); have HI8 : Hid (ItsApart w8 w2.heap.size (some g) (.slice va5 n vc5) n (R j).at_) := apart_push (v' := .slice (some ⟨g, 0, none⟩) (j + 1) cap8) (HI7.out.alloc _) hgrow8 hk8; have HB8 : Hid (Below w2.heap.size w2 w8) := (((HB5.out.trans (Below.mono HN7.out hz5)).alloc (by omega) _).grown hgrow8 (by simp <;> omega) (fun z hz => (HF1.out.lt z hz).1)); clear hown8 hgrow8 hk8)
                go_loopw [13] (fun v wr => ∃ kk : Nat, a ≤ kk ∧ kk ≤ j ∧ v = .int .i64 kk ∧ wr.ownsRow w2.heap.size 34 1 (.slice (some ⟨g, 0, none⟩) (j + 1) cap8) (j + 1) (vals (shF f j kk) (j + 1)) ∧ But1 g w8 wr) (fun v _ => (intOf v).toNat)
                case atStart => exact ⟨j, haj, Nat.le_refl _, by simp, HV8.out, rfl, rfl, rfl, rfl, fun b _ => rfl⟩
                case round =>
                  obtain ⟨kk, hak, hkj, rfl, hown, hbut⟩ := hrel
                  have HOW : Hid (wr.ownsRow w2.heap.size 34 1 (.slice (some ⟨g, 0, none⟩) (j + 1) cap8) (j + 1) (vals (shF f j kk) (j + 1))) := hown
                  have HBU : Hid (But1 g w8 wr) := hbut
                  clear hown hbut
                  by_cases hgo : a < kk
                  · obtain ⟨q, hq⟩ : ∃ q, kk = q + 1 := ⟨kk - 1, by omega⟩
                    have hshq : shF f j kk q = f q := by unfold shF; rw [if_neg (by omega), if_pos (by omega)]
                    obtain ⟨e1, _, _⟩ := own_cell HOW.out (t := q) (by omega) (vals_at (by omega))
                    obtain ⟨e2, e3, e4⟩ := own_cell HOW.out (t := kk) (by omega) (vals_at (by omega))
                    rw [hshq] at e1
                    have HFQ : Hid ((vals (shF f j kk) (j + 1)).set kk (f q) = vals (shF f j q) (j + 1)) := by
                      have h := sh_step (f := f) (i := j) (kk := kk) (by omega) hkj
                      rw [show kk - 1 = q by omega] at h
                      exact h
                    obtain ⟨fa, fc, hfe, _⟩ := HF8.out q (by omega)
                    rw [hfe] at e1 HFQ
                    have hqi : (a : Int) < (kk : Int) := by omega
                    have hkl : (kk : Int) < (j : Int) + 1 := by omega
                    have hql : (q : Int) < (j : Int) + 1 := by omega
                    have hwq : IntKind.i64.wrap ((kk : Int) - 1) = (q : Int) := by rw [hq]; simp; exact IntWalk.i64_in _ (by omega)
                    have HQ2 : Hid (kk = q + 1) := hq
                    clear hq hshq hfe
                    generalize shF f j kk kk = ov at *
                    go_wp2_with fail
                    go_roundw
                    case rel => exact ⟨q, by have := HQ2.out; omega, by have := HQ2.out; omega, by go_num, by rw [← HFQ.out]; exact own_set HOW.out kk (by omega) _, HBU.out.set _ _⟩
                    case measure => have := HQ2.out; simp [intOf]; omega
                  · have e : kk = a := by omega
                    subst e
                    obtain ⟨e2, e3, e4⟩ := own_cell HOW.out (t := kk) (by omega) (vals_at (by omega))
                    have HEND : Hid ((vals (shF f j kk) (j + 1)).set kk (.slice va5 n vc5) = vals (inF f kk (.slice va5 n vc5)) (j + 1)) := sh_end hkj
                    have hqi : ¬ ((kk : Int) < (kk : Int)) := by omega
                    have hkl : (kk : Int) < (j : Int) + 1 := by omega
                    generalize shF f j kk kk = ov at *
                    go_wp2_with fail
                    go_roundw
                    case rel =>
                      refine ⟨j + 1, by omega, by go_num, rows_of (f := inF f kk (.slice va5 n vc5)) (by rw [← HEND.out]; exact own_set HOW.out kk (by omega) _) (fun t ht => ?_), HB8.out.trans (((HBU.out.set _ _).below hbg))⟩
                      have hs := insF_succ Z ko j t ht
                      rw [HPP.out] at hs
                      show ItsApart _ _ _ _ (R (insF Z ko (j + 1) t)).len (R (insF Z ko (j + 1) t)).at_
                      rw [hs]
                      unfold inF
                      by_cases h1 : t < kk
                      · rw [if_pos h1, if_pos h1]; exact (HBU.out.set _ _).its (HF8.out t (by omega))
                      · rw [if_neg h1, if_neg h1]
                        by_cases h2 : t = kk
                        · rw [if_pos h2, if_pos h2, HLEN.out j hjl]; exact (HBU.out.set _ _).its HI8.out
                        · rw [if_neg h2, if_neg h2]; exact (HBU.out.set _ _).its (HF8.out (t - 1) (by omega))
                    case measure => simp [intOf]; omega
            · have HSX : Hid (scanP Z ko j (insL Z ko j) (a - 1) = scanP Z ko j (insL Z ko j) j) := (scan_step (show a = (a - 1) + 1 by omega) hk).symm.trans HSC.out
              obtain ⟨q, hq⟩ : ∃ q, a = q + 1 := ⟨a - 1, by omega⟩
              rw [show a - 1 = q by omega] at hk
              have hir := (HR5.out.below HCH.out).is
              obtain ⟨a2, c2, e2', _, _, _, p3⟩ := hir
              cases e2'
              obtain ⟨g0, go0, rfl, hgz, p4⟩ := p3 (by omega)
              obtain ⟨u2, e2, hu2⟩ := p4 q (by omega)
              have hjq : insF Z ko j q < m := Nat.lt_trans (insF_lt (by omega)) hjl
              have HU2 : Hid (ItsIs wr u2 n (R (insF Z ko j q)).at_) := by
                have h : ItsIs wr u2 (R (insF Z ko j q)).len (R (insF Z ko j q)).at_ := hu2
                rw [HLEN.out _ hjq] at h
                exact h
              obtain ⟨ua2, ucap2, rfl, _⟩ := HU2.out
              have HUR : Hid (ItsIs wr (.slice va5 n vc5) n (R j).at_) := (HI5.out.is).below HCH.out
              have hai : (0 : Int) < (a : Int) := by omega
              have hqi : (q : Int) < (j : Int) := by omega
              have hwq : IntKind.i64.wrap ((a : Int) - 1) = (q : Int) := by rw [hq]; simp; exact IntWalk.i64_in _ (by omega)
              have HAQ : Hid (a = q + 1) := hq
              have HKL : Hid (decide (keyC (fun t => (R j).at_ (P t)) (fun t => (R (insF Z ko j q)).at_ (P t)) ko < 0) = true) := by
                have h : keyL Z ko j (insF Z ko j q) = true := hk
                unfold keyL at h
                rw [HZ.out, HZ.out] at h
                exact h
              have HKQ : Hid (keyL Z ko j ((insL Z ko j).getD q 0) = true) := hk
              have HCW : Hid (∀ W, Chain wr W → Below w2.heap.size w2 W) := fun W h => HB5.out.trans (Below.mono (HCH.out.trans h) hz5)
              have CP1 : Hid (∀ W, Chain wr W → Calls Tryd.prog 20 #[.slice va5 n vc5, .slice pa ko pc] W fun e w' => ∃ a x, e = .returned (.slice a ko x) ∧ ItsIs w' (.slice a ko x) ko (fun t => (R j).at_ (P t)) ∧ Chain W w' ∧ Chain wr w') := fun W h => (picks_is (.slice va5 n vc5) (.slice pa ko pc) n ko (R j).at_ P W (HUR.out.below h) (HI2.out.below (HCW.out W h)) HPN.out hko).mono (fun e w' ⟨v, h1, h2, ⟨a, x, h3⟩, h4⟩ => by subst h3; exact ⟨a, x, h1, h2.is, h4, h.trans h4⟩)
              have CP2 : Hid (∀ W, Chain wr W → Calls Tryd.prog 20 #[.slice ua2 n ucap2, .slice pa ko pc] W fun e w' => ∃ a x, e = .returned (.slice a ko x) ∧ ItsIs w' (.slice a ko x) ko (fun t => (R (insF Z ko j q)).at_ (P t)) ∧ Chain W w' ∧ Chain wr w') := fun W h => (picks_is (.slice ua2 n ucap2) (.slice pa ko pc) n ko (R (insF Z ko j q)).at_ P W (HU2.out.below h) (HI2.out.below (HCW.out W h)) HPN.out hko).mono (fun e w' ⟨v, h1, h2, ⟨a, x, h3⟩, h4⟩ => by subst h3; exact ⟨a, x, h1, h2.is, h4, h.trans h4⟩)
              generalize (fun t => (R j).at_ (P t)) = Y1 at CP1 HKL
              generalize (fun t => (R (insF Z ko j q)).at_ (P t)) = Y2 at CP2 HKL
              have CS : Hid (∀ W v5 v6, Chain wr W → ItsIs W v5 ko Y1 → ItsIs W v6 ko Y2 → Calls Tryd.prog 19 #[v5, v6] W fun e w' => e = .returned (.bool true) ∧ Chain wr w') := fun W v5 v6 h h1 h2 => (lessItems_is v5 v6 ko Y1 Y2 W h1 h2).mono (fun e w' ⟨h3, h4⟩ => ⟨by rw [h3, HKL.out], h.trans h4⟩)
              have HS : Hid (∀ W, Chain wr W → W.cell? ⟨g0, go0 + q, none⟩ = some (.slice ua2 n ucap2)) := fun W h => (Below.cell h (p := ⟨g0, go0 + q, none⟩) hgz).trans e2
              clear p3 p4 hu2 hq hk hch hgz e2
              go_upto_region 13 with fail
              go_region_held3 (fun W => W.cell? ⟨g0, go0 + q, none⟩ = some (.slice ua2 n ucap2))
                ((refine HS.out _ ?_; repeat (first | exact Hid.out (by assumption) | exact Chain.refl _ | refine Chain.drew ?_)))
                (first
                  | (go_at_call_has 20 (Value.slice va5 n vc5); refine (CP1.out _ ?_).mono ?_; (focus (repeat (first | exact Hid.out (by assumption) | exact Chain.refl _ | refine Chain.alloc ?_ _ | refine Chain.drew ?_))); rintro e w6 ⟨va6, vc6, rfl, hi6, hb6, hn6⟩; have HI6 : Hid (ItsIs w6 (.slice va6 ko vc6) ko Y1) := hi6; have HCH6 : Hid (Chain _ w6) := hb6; have HN6 : Hid (Chain wr w6) := hn6; clear hi6 hb6 hn6)
                  | (go_at_call_has 20 (Value.slice ua2 n ucap2); refine (CP2.out _ ?_).mono ?_; (focus (repeat (first | exact Hid.out (by assumption) | exact Chain.refl _ | refine Chain.alloc ?_ _ | refine Chain.drew ?_))); rintro e w9 ⟨va9, vc9, rfl, hi9, hb9, hn9⟩; have HI9 : Hid (ItsIs w9 (.slice va9 ko vc9) ko Y2) := hi9; have HCH9 : Hid (Chain _ w9) := hb9; have HN9 : Hid (Chain wr w9) := hn9; clear hi9 hb9 hn9)
                  | (go_at_call 19; refine (CS.out _ _ _ ?_ ?_ ?_).mono ?_; (focus (repeat (first | exact Hid.out (by assumption) | exact Chain.refl _ | refine Chain.alloc ?_ _ | refine Chain.drew ?_))); (focus (repeat (first | exact HI6.out | refine ItsIs.below ?_ HCH9.out))); (focus (repeat (first | exact HI9.out | refine ItsIs.below ?_ HCH6.out))); rintro e w7 ⟨rfl, hn7⟩; have HN7w : Hid (Chain wr w7) := hn7; have HN7 : Hid (Chain w5 w7) := HCH.out.trans hn7; clear hn7))
              all_goals
                clear HN6 HN9 HCH6 HCH9 HI6 HI9 HN7w
                go_split_ands
                go_wp2_with fail
                go_roundw
                case rel => exact ⟨q, by have := HAQ.out; omega, by go_num, by rw [← HSX.out, HAQ.out, Nat.add_sub_cancel], HN7.out⟩
                case measure => have := HAQ.out; simp [intOf]; omega
        · have e : j = m := by omega
          subst e
          have HROW2 : Hid (RowsOwn wr w2.heap.size (.slice ra j rc) j (soR R P ko j)) := HROW.out.congr (fun t _ => (HSO.out t).symm)
          clear HROW
          have HROW : Hid (RowsOwn wr w2.heap.size (.slice ra j rc) j (soR R P ko j)) := HROW2.out
          have HM0 : Hid (madeF C n j = 0) := HMADE.out _ (Nat.le_refl _)
          have HR : Hid (Calls Tryd.prog 21 #[.slice ca n ccap, .slice ra j rc] wr fun e w' => ∃ c' q', e = .returned (.tuple #[.agg #[c', q'], .int .i64 0]) ∧ StrsFrom w' wr.heap.size c' (okN 0 n) C ∧ q' = keptV 0 (.slice ra j rc) ∧ Below wr.heap.size wr w') := by
            have h := relOf_is (.slice ca n ccap) (.slice ra j rc) n j C (soR R P ko j) wr (HC.out wr (HW.out HB4.out)) HROW.out.is HF.out
            rwa [HM0.out] at h
          go_wp2_with (first | (go_at_call 21; refine HR.out.mono ?_; rintro e w5 ⟨c5, q5, rfl, hc5, hq5, hb5⟩; have hq6 : q5 = .slice ra j rc := hq5; subst hq6; have HC5 : Hid (StrsFrom w5 (w.heap.size + 2) c5 n C) := StrsFrom.weaken hc5 (by omega); have HR5 : Hid (RowsOwn w5 w2.heap.size (.slice ra j rc) j (soR R P ko j)) := HROW.out.below hb5; have HB5 : Hid (Below (w.heap.size + 2) ((w.alloc (.cells #[.slice ca n ccap, .slice qa j qcap] 25)).alloc (.cells #[.slice none 0 0, .slice none 0 0] 25)) w5) := HB4.out.trans (hb5.mono (by omega)); clear x0 x1 x2 x3 x4 x5 x6; obtain ⟨x0, x1, x2, x3, x4, x5, x6⟩ := box2r HB5.out; obtain ⟨ca5, cc5, rfl, _⟩ := hc5; clear hb5 hq5 HR))
          refine bodyPost_ret (v := .tuple #[.agg #[.slice ca5 (okN 0 n) cc5, .slice ra j rc], .int .i64 0]) (by simp [results, Tryd.results7, go_sem, x2, x3]) rfl ⟨_, _, by rw [HF0.out], ?_, ?_, (((HW.out HB5.out)).setCell (by simp <;> omega) _).setCell (by simp <;> omega) _⟩
          · rw [HF0.out]; exact ((HC5.out.setCell (by simp) _).setCell (by simp) _).is
          · rw [HF0.out]; exact ((HR5.out.setCell (by simp <;> omega) _).setCell (by simp <;> omega) _).is
  · have HFF : Hid (soF C n R m O ko = relF C n R m) := if_neg h0
    have HNZ : Hid (¬ relF C n R m = 0) := h0
    have h1 : (relF C n R m != 0) = true := by simpa using h0
    have h2 : (relF C n R m == 0) = false := by simpa using h0
    have CA : Hid (∀ W, Below w.heap.size w W → Calls Tryd.prog 17 #[.agg #[.slice ca n ccap, .slice qa m qcap], .slice la ko lcap] W fun e w' => ∃ a k x bb, e = .returned (.tuple #[.slice a k x, .bool bb]) ∧ Below W.heap.size W w') := fun W hW => by
      cases hfo : foundB C n O ko
      · obtain ⟨t, t1, t2, t3⟩ := found_no hfo
        exact (CN.out t t1 t3 t2 W hW).mono (fun e w' ⟨h3, h4⟩ => ⟨_, _, _, _, h3, h4⟩)
      · exact (CY.out (fun i hi => (found_yes hfo i hi).1) W hW).mono (fun e w' ⟨v, h3, _, ⟨a, x, h5⟩, h4⟩ => by subst h5; exact ⟨_, _, _, _, h3, h4⟩)
    clear h0 CY CN
    generalize soR R (prP C n O) ko m = U at *
    generalize soF C n R m O ko = F at *
    generalize relF C n R m = G at *
    go_enter Tryd.func7, Tryd.ntmps7
    go_wp2_with (first
      | (go_at_call 16; refine (C1.out _ _).mono ?_; rintro e w1 ⟨rfl, hb1⟩; have HB1 : Hid (Below (w.heap.size + 2) ((w.alloc (.cells #[.slice ca n ccap, .slice qa m qcap] 25)).alloc (.cells #[.slice none 0 0, .slice none 0 0] 25)) w1) := hb1; obtain ⟨x0, x1, x2, x3, x4, x5, x6⟩ := box2r hb1; clear hb1)
      | (go_at_call 17; refine (CA.out _ (HW.out HB1.out)).mono ?_; rintro e w2 ⟨pa, pk, pc, bb, rfl, hb2⟩; have HB2 : Hid (Below (w.heap.size + 2) ((w.alloc (.cells #[.slice ca n ccap, .slice qa m qcap] 25)).alloc (.cells #[.slice none 0 0, .slice none 0 0] 25)) w2) := HB1.out.trans (hb2.mono (by omega)); clear x0 x1 x2 x3 x4 x5 x6; obtain ⟨x0, x1, x2, x3, x4, x5, x6⟩ := box2r HB2.out; clear hb2))
    refine bodyPost_ret (v := .tuple #[.agg #[.slice none 0 0, .slice none 0 0], .int .i64 G]) (by simp [results, Tryd.results7, go_sem, x2, x3]) rfl ⟨_, _, by rw [HFF.out], ?_, ?_, (((HW.out HB2.out)).setCell (by simp <;> omega) _).setCell (by simp <;> omega) _⟩
    · rw [HFF.out, okN, if_neg HNZ.out]; exact nil_strs _ _
    · rw [HFF.out, okN, if_neg HNZ.out]; exact nil_rows _ _
end Go.Proofs.YtdmleoiihfipnaaDoor
