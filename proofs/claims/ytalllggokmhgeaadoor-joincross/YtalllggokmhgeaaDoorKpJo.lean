/-
  FACTS for pleacherkeep.JoinCross: what is joined is what of all pairs is the same.
-/
import Derived.Test.YtalllggokmhgeaaDoorKpUn
import Derived.Test.YtalllggokmhgeaaDoorRlJoinI
import Derived.Test.YtalllggokmhgeaaDoorRlCrossI
import Derived.Test.YtalllggokmhgeaaDoorRlChain
import Derived.Laws.OwnMore
import Derived.Laws.AppendOwnNone
import Derived.Maps.AppendAt
import Derived.OwnWalk
set_option linter.unusedVariables false
namespace Go.Proofs.YtalllggokmhgeaaDoor
set_option maxRecDepth 100000
open Go.RowKit

def nC : ByteArray := ⟨#[99]⟩
def nD : ByteArray := ⟨#[100]⟩
def rowD : Row := ⟨0, fun _ => ⟨0, 0, ⟨#[]⟩⟩⟩
theorem one_ne {p q : UInt8} (h : (p == q) = false) : ((⟨#[p]⟩ : ByteArray).toList == (⟨#[q]⟩ : ByteArray).toList) = false := by
  rw [ByteArray.toList_eq, ByteArray.toList_eq]
  show ([p] == [q]) = false
  simp only [List.cons_beq_cons, h, Bool.false_and]
theorem col_at0 (a b : ByteArray) : colI (twoC a b) 2 a = (0 : Nat) := colI_hit (by decide) (by simp [twoC]) (fun j hj => by omega)
theorem cols_cd : colsF (twoC nC nD) 2 = 0 := cols_two rfl rfl (one_ne (by decide))
theorem rel_cd (X : Nat → Rw) (m : Nat) (hm : m ≤ 12) : relF (twoC nC nD) 2 (rawR X) m = 0 := relF_ok (made_0 cols_cd (by omega)) (fun j _ => raw_row X j)
theorem colsT_abcd : colsF (colsT (twoC nA nB) 2 (twoC nC nD) 2) (2 + 2) = 0 := by
  refine colsF_ok (by decide) fun j hj => ?_
  have : j = 0 ∨ j = 1 ∨ j = 2 ∨ j = 3 := by omega
  rcases this with rfl | rfl | rfl | rfl
  · exact colE_ok (by show ¬ (nA.size < 1 ∨ 20 < nA.size); decide) (among_no fun j hj => by omega)
  · refine colE_ok (by show ¬ (nB.size < 1 ∨ 20 < nB.size); decide) (among_no fun j hj => ?_)
    obtain rfl : j = 0 := by omega
    exact ab_ne
  · refine colE_ok (by show ¬ (nC.size < 1 ∨ 20 < nC.size); decide) (among_no fun j hj => ?_)
    have : j = 0 ∨ j = 1 := by omega
    rcases this with rfl | rfl
    · exact one_ne (by decide)
    · exact one_ne (by decide)
  · refine colE_ok (by show ¬ (nD.size < 1 ∨ 20 < nD.size); decide) (among_no fun j hj => ?_)
    have : j = 0 ∨ j = 1 ∨ j = 2 := by omega
    rcases this with rfl | rfl | rfl
    · exact one_ne (by decide)
    · exact one_ne (by decide)
    · exact one_ne (by decide)
theorem colsT_abab : colsF (colsT (twoC nA nB) 2 (twoC nA nB) 2) (2 + 2) = 7 := by
  have h : colE (colsT (twoC nA nB) 2 (twoC nA nB) 2) 2 = 7 := colE_twice (by show ¬ (nA.size < 1 ∨ 20 < nA.size); decide) (among_yes (j := 0) (by decide) (by show (nA.toList == nA.toList) = true; simp))
  rw [colsF_err (k := 2) (by decide) (by decide) (fun j hj => ?_) (by rw [h]; decide), h]
  have : j = 0 ∨ j = 1 := by omega
  rcases this with rfl | rfl
  · exact colE_ok (by show ¬ (nA.size < 1 ∨ 20 < nA.size); decide) (among_no fun j hj => by omega)
  · refine colE_ok (by show ¬ (nB.size < 1 ∨ 20 < nB.size); decide) (among_no fun j hj => ?_)
    obtain rfl : j = 0 := by omega
    exact ab_ne
theorem two_0 {a b : Int} (ha : a = 0) (hb : b = 0) : twoF a b = 0 := by subst ha; subst hb; rfl
theorem pairN_con (b k : Nat) : pairN (fun _ => b) k = k * b := by
  induction k with
  | zero => simp [pairN]
  | succ k ih => show pairN (fun _ => b) k + b = _; rw [ih, Nat.succ_mul]
theorem jpn_le (R R' : Nat → Row) (m' p p' k : Nat) : jpn R R' m' p p' k ≤ m' := keptN_le _ _
theorem few {m m' N : Nat} (hm : m ≤ 12) (hm' : m' ≤ 12) (h : N ≤ m * m') : N ≤ 144 := Nat.le_trans h (Nat.mul_le_mul hm hm')
theorem jo_ok (X Y : Nat → Rw) (m m' : Nat) (hm : m ≤ 12) (hm' : m' ≤ 12) : joF (twoC nA nB) 2 (rawR X) m (twoC nC nD) 2 (rawR Y) m' nA nC = 0 := by
  unfold joF
  rw [if_pos (two_0 (rel_ab X m hm) (rel_cd Y m' hm')), if_neg (by rw [col_at0, col_at0]; omega)]
  have := few hm hm' (pairN_le (jpn_le (rawR X) (rawR Y) m' (joP (twoC nA nB) 2 nA) (joP (twoC nC nD) 2 nC)) m)
  exact made_0 colsT_abcd (by omega)
theorem jo_twice (X : Nat → Rw) (m : Nat) (hm : m ≤ 12) : joF (twoC nA nB) 2 (rawR X) m (twoC nA nB) 2 (rawR X) m nA nA = 7 := by
  unfold joF
  rw [if_pos (two_0 (rel_ab X m hm) (rel_ab X m hm)), if_neg (by rw [col_at0]; omega)]
  exact madeF_err colsT_abab (by decide)
theorem cr_ok (X Y : Nat → Rw) (m m' : Nat) (hm : m ≤ 12) (hm' : m' ≤ 12) : crF (twoC nA nB) 2 (rawR X) m (twoC nC nD) 2 (rawR Y) m' = 0 := by
  unfold crF
  rw [if_pos (two_0 (rel_ab X m hm) (rel_cd Y m' hm'))]
  refine made_0 colsT_abcd ?_
  rw [pairN_con]
  have := Nat.mul_le_mul hm hm'
  omega
/-- is it the same? -/
def sameP (r : Row) : Bool := itB (r.at_ 2) (r.at_ 0)
theorem map_getD {α β : Type} (L : List α) (d : α) (f : α → β) : (List.range L.length).map (fun i => f (L.getD i d)) = L.map f := by
  refine List.ext_getElem (by simp) fun i h1 h2 => ?_
  simp at h1 h2
  simp [h1]
theorem join_filter (X Y : Nat → Rw) (m' k : Nat) : pairL (jpn (rawR X) (rawR Y) m' 0 0) (jPR (rawR X) (rawR Y) m' 0 0) (rawR X) k = (pairL (fun _ => m') (fun _ => rawR Y) (rawR X) k).filter sameP := by
  induction k with
  | zero => rfl
  | succ k ih =>
    show pairL _ _ _ k ++ _ = List.filter sameP (pairL _ _ _ k ++ _)
    rw [List.filter_append, ih]
    congr 1
    rw [List.filter_map]
    have h := map_getD (keptL (matchK (jI (rawR Y) 0) (jI (rawR X) 0 k)) m') 0 (fun t => appI (rawR X k) (rawR Y t))
    refine Eq.trans h ?_
    rfl
/-- what the loop keeps -/
def wantK (X Y : Nat → Rw) (m m' t : Nat) : Bool := sameP (crR (rawR X) m (rawR Y) m' t)
theorem want_list (L : List Row) (p : Row → Bool) : L.filter p = ((List.range L.length).filter (fun t => p (L.getD t rowD))).map (fun t => L.getD t rowD) := by
  have h := map_getD L rowD id
  simp only [id, List.map_id_fun] at h
  conv => lhs; rw [← h]
  rw [List.filter_map]
  rfl
theorem want_eq (X Y : Nat → Rw) (m m' : Nat) : pairL (jpn (rawR X) (rawR Y) m' 0 0) (jPR (rawR X) (rawR Y) m' 0 0) (rawR X) m = (keptL (wantK X Y m m') (m * m')).map (crR (rawR X) m (rawR Y) m') := by
  rw [join_filter, want_list, pairL_len, pairN_con]
  rfl
theorem want_n (X Y : Nat → Rw) (m m' : Nat) : joN (rawR X) m (rawR Y) m' 0 0 = keptN (wantK X Y m m') (m * m') := by
  have h := congrArg List.length (want_eq X Y m m')
  rw [pairL_len, List.length_map] at h
  exact h
theorem want_row (X Y : Nat → Rw) (m m' i : Nat) (hi : i < keptN (wantK X Y m m') (m * m')) : joR (rawR X) m (rawR Y) m' 0 0 i = keptR (wantK X Y m m') (m * m') (crR (rawR X) m (rawR Y) m') i := by
  show (pairL _ _ _ m).getD i rowD = _
  rw [want_eq]
  unfold keptR keptAt
  have hi' : i < (keptL (wantK X Y m m') (m * m')).length := hi
  simp [hi']
theorem cr_row (X Y : Nat → Rw) (m m' t : Nat) (ht : t < m * m') : ∃ k j, crR (rawR X) m (rawR Y) m' t = appI (rawR X k) (rawR Y j) := by
  have hin : crR (rawR X) m (rawR Y) m' t ∈ pairL (fun _ => m') (fun _ => rawR Y) (rawR X) m := by
    have hl : t < (pairL (fun _ => m') (fun _ => rawR Y) (rawR X) m).length := by rw [pairL_len, pairN_con]; exact ht
    show (pairL _ _ _ m).getD t rowD ∈ _
    rw [List.getD_eq_getElem?_getD, List.getElem?_eq_getElem hl]
    exact List.getElem_mem hl
  generalize crR (rawR X) m (rawR Y) m' t = r at hin
  clear ht
  induction m with
  | zero => cases hin
  | succ m ih =>
    rcases List.mem_append.1 hin with h | h
    · exact ih h
    · obtain ⟨j, _, rfl⟩ := List.mem_map.1 h
      exact ⟨m, j, rfl⟩
theorem cr_len (X Y : Nat → Rw) (m m' t : Nat) (ht : t < m * m') : (crR (rawR X) m (rawR Y) m' t).len = 4 := by
  obtain ⟨k, j, h⟩ := cr_row X Y m m' t ht
  rw [h]; rfl
/-- a list of rows of one's own, the rows anywhere -/
theorem own_rows {w : World} {B : Nat} {v : Value} {m : Nat} {us : List Value} {R : Nat → Row} (h1 : w.ownsRow B 32 1 v m us) (h2 : ∀ i, i < m → ∃ u, us[i]? = some u ∧ ItsIs w u (R i).len (R i).at_) : RowsIs w v m R := by
  have h8 := h1
  obtain ⟨hl, ⟨rfl, h3⟩ | ⟨b, cap, cur, rfl, q1, q2, q3, q4, _⟩⟩ := h1
  · subst h3
    exact ⟨none, 0, rfl, Nat.le_refl _, Nat.zero_le _, fun _ => rfl, fun h => absurd h (Nat.lt_irrefl _)⟩
  · refine ⟨_, cap, rfl, q3, q4, (fun h => nomatch h), fun h0 => ⟨b, 0, rfl, (Array.getElem?_eq_some_iff.1 q2).1, fun i hi => ?_⟩⟩
    obtain ⟨u, k1, k2⟩ := h2 i hi
    exact ⟨u, by rw [Nat.zero_add, h8.cellAt _ (by omega), k1], k2⟩
/-- append to a row of one's own: where the new row lies -/
theorem wpList_append_at {P : Program} {ops : Array Oper} {rest : List Oper} {o : Oper} {a : Act} {w : World} {Q : Exit → Act → World → Prop} (hgd : o.guard = none) (s x : Operand) (t : TypeId)
    (ho : o.op = .call { callee := .builtin .append, args := #[s, x], argTypes := #[t, t] })
    (base : Nat) (e : TypeId) (i : TypeInfo) (z : Value) (size bytes : Nat) (ht : P.underlying t = some (.slice e)) (hi : P.info? e = some i) (hz : i.zero = some z)
    (hsize : i.size = size) (hby : i.bytes = bytes) (hzs : z.cells.size = size) (hsz : 0 < size)
    (v : Value) (n : Nat) (xs : List Value) (hs : a.eval s = v) (hown : w.ownsRow base e size v n xs)
    (ad : Addr) (m c : Nat) (news : List Value) (hx : a.eval x = .slice (some ad) m c) (hl : news.length = m * size) (hnews : ∀ j u, news[j]? = some u → w.cell? (ad.add j) = some u) (h1 : ∀ u ∈ news, u.oneCell' = true)
    (h63 : n + m ≤ maxLen) (hbytes : (n + m) * bytes ≤ 140737488355328) (hbase : base ≤ w.heap.size)
    (h : ∀ v' w', w'.ownsRow base e size v' (n + m) (xs ++ news) → w.grownBy w' v.ownBlock → (v'.ownBlock = v.ownBlock ∨ v'.ownBlock = some w.heap.size) → wpList P ops Q rest (a.put o.dst v') w') : wpList P ops Q (o :: rest) a w := by
  refine wpList_plain hgd fun K hK => ?_
  obtain ⟨v', w', hr, k1, k2, k3, k4⟩ := run_append_own_at (P := P) w base t o.type e i z size bytes ht hi hz hsize hby hzs hsz v n xs hown ad m c news hl hnews h1 h63 hbytes hbase
  unfold Oper.wp execOp
  simp only [ho, resolve, invoke, builtin, Sem.run_bind, Sem.run_pure, Result.andThen_ok, List.map_toArray, List.map_cons, List.map_nil, hs, hx, hr]
  exact hK _ _ (h v' w' k1 k2 k4)
theorem rows_vals2 {w : World} {a : Option Addr} {m c : Nat} {R : Nat → Row} (h : RowsIs w (.slice a m c) m R) : ∃ rv : Nat → Value, ∀ i, i < m → ∀ W, Chain w W → ∃ b off, a = some ⟨b, off, none⟩ ∧ b < w.heap.size ∧ W.cell? ⟨b, off + i, none⟩ = some (rv i) ∧ ItsIs W (rv i) (R i).len (R i).at_ := by
  obtain ⟨a0, c0, e, h1, h2, h3, h4⟩ := h
  simp only [Value.slice.injEq, true_and] at e
  obtain ⟨rfl, rfl⟩ := e
  by_cases h0 : 0 < m
  · obtain ⟨b, off, rfl, hb, h5⟩ := h4 h0
    refine ⟨fun i => (w.cell? ⟨b, off + i, none⟩).getD (.int .i64 0), fun i hi W hW => ⟨b, off, rfl, hb, ?_⟩⟩
    obtain ⟨u, k1, k2⟩ := h5 i hi
    simp only [k1, Option.getD_some]
    exact ⟨(Below.cell hW (p := ⟨b, off + i, none⟩) hb).trans k1, k2.below hW⟩
  · exact ⟨fun _ => .int .i64 0, fun i hi => by omega⟩
theorem carry2 {w wr : World} {b : Nat} {x y : Value} (h : Chain w wr) (h0 : w.cell? ⟨b, 0, none⟩ = some x) (h1 : w.cell? ⟨b, 1, none⟩ = some y) (hb : b < w.heap.size) : wr.cell? ⟨b, 0, none⟩ = some x ∧ wr.cell? ⟨b, 1, none⟩ = some y ∧ b < wr.heap.size :=
  ⟨(Below.cell h (p := ⟨b, 0, none⟩) hb).trans h0, (Below.cell h (p := ⟨b, 1, none⟩) hb).trans h1, Nat.lt_of_lt_of_le hb (Below.size h)⟩
theorem elemV_in {w : World} (u : Value) (T : TypeId) : ∀ j x, ([u] : List Value)[j]? = some x → (w.alloc (.cells #[u] T)).cell? ((⟨w.heap.size, 0, none⟩ : Addr).add j) = some x := by
  intro j x hj
  have hj1 : j < 1 := (List.getElem?_eq_some_iff.1 hj).1
  obtain rfl : j = 0 := by omega
  simp at hj
  subst hj
  simp [Addr.add]
theorem elemV_one (a : Option Addr) (n c : Nat) : ∀ u ∈ ([.slice a n c] : List Value), u.oneCell' = true := by
  intro u hu
  simp at hu
  subst hu
  rfl
theorem elemV_inb {w : World} (u : Value) (T : TypeId) (g : Nat) (h : w.heap.size = g) : ∀ j x, ([u] : List Value)[j]? = some x → (w.alloc (.cells #[u] T)).cell? ((⟨g, 0, none⟩ : Addr).add j) = some x := h ▸ elemV_in u T
theorem own_belowJ {w w' : World} {base : Nat} {e : TypeId} {size : Nat} {v : Value} {n : Nat} {xs : List Value} (h : w.ownsRow base e size v n xs) (hb : Below w.heap.size w w') : w'.ownsRow base e size v n xs := by
  refine ⟨h.1, ?_⟩
  rcases h.2 with h1 | ⟨g, cap, cur, h1, h2, h3, h4⟩
  · exact .inl h1
  · refine .inr ⟨g, cap, cur, h1, h2, ?_, h4⟩
    rw [hb.block g (Array.getElem?_eq_some_iff.1 h3).1]
    exact h3
theorem kept_vals {K : Nat → Bool} {P : Nat} {rv : Nat → Value} {W : World} {U : Nat → Row} (h : ∀ i, i < P → ItsIs W (rv i) (U i).len (U i).at_) : ∀ i, i < keptN K P → ∃ u, ((keptL K P).map rv)[i]? = some u ∧ ItsIs W u (keptR K P U i).len (keptR K P U i).at_ := fun i hi => by
  have hi' : i < (keptL K P).length := hi
  refine ⟨rv (keptAt K P i), ?_, ?_⟩
  · unfold keptAt
    simp [hi']
  · refine h _ ?_
    unfold keptAt
    rw [List.getD_eq_getElem?_getD, List.getElem?_eq_getElem hi']
    have := List.getElem_mem hi'
    unfold keptL at this ⊢
    exact List.mem_range.1 (List.mem_filter.1 this).1
end Go.Proofs.YtalllggokmhgeaaDoor
