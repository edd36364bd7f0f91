/-
  CONTRACTS: lists put together (slices.Concat, and the document's answers items, texts), at items and at texts.
-/
import Derived.Test.YtjgihlmefaakkaaDoorRlSame
import Derived.Test.YtjgihlmefaakkaaDoorShelf
import Derived.OwnWalk
set_option linter.unusedVariables false
namespace Go.Proofs.YtjgihlmefaakkaaDoor
set_option maxRecDepth 100000
open Go.RowKit Go.WideShapes

/-- some texts -/
structure Txts where
  len : Nat
  at_ : Nat → ByteArray
/-- append to a row of one's own, of a list wherever it lies -/
theorem wp_onto {P : Program} {o : Oper} {a : Act} {w : World} {K : Act → World → Prop} {Q : Exit → Act → World → Prop} (s x : Operand) (t : TypeId)
    (ho : o.op = .call { callee := .builtin .append, args := #[s, x], argTypes := #[t, t] })
    (base : Nat) (e : TypeId) (i : TypeInfo) (z : Value) (size bytes : Nat) (ht : P.underlying t = some (.slice e)) (hi : P.info? e = some i) (hz : i.zero = some z)
    (hsize : i.size = size) (hby : i.bytes = bytes) (hzs : z.cells.size = size) (hsz : 0 < size) (v : Value) (n : Nat) (xs : List Value) (hs : a.eval s = v) (hown : w.ownsRow base e size v n xs)
    (u : Value) (k : Nat) (news : List Value) (hx : a.eval x = u) (hl : ListIs w u k size news) (hm : n + k ≤ maxLen) (hb : (n + k) * bytes ≤ 140737488355328) (hbase : base ≤ w.heap.size)
    (h : ∀ v' w', w'.ownsRow base e size v' (n + k) (xs ++ news) → w.grownBy w' v.ownBlock → K (a.put o.dst v') w') : o.wp P a w K Q := by
  obtain ⟨h1, h2, ⟨rfl, rfl⟩ | ⟨ad, c, rfl, h3⟩⟩ := hl
  · have hn : news = [] := List.eq_nil_of_length_eq_zero (by simpa using h1)
    subst hn
    have hrun := run_append_owned_none (P := P) (w := w) base t o.type e i size ht hi v n xs hown
    unfold Oper.wp
    simp [execOp, ho, resolve, invoke, builtin, hs, hx, hrun, Result.andThen]
    exact h _ _ (by rw [List.append_nil]; exact hown) ⟨rfl, rfl, rfl, Nat.le_refl _, fun _ _ _ => rfl⟩
  · exact wp_append_own w s x t ho base e i z size bytes ht hi hz hsize hby hzs hsz v n xs hs hown ad k c news hx h1 h3 h2 hm hb hbase (fun v' w' q1 q2 _ => h v' w' q1 q2)
theorem own_shape {w : World} {base : Nat} {e : TypeId} {size : Nat} {v : Value} {n : Nat} {xs : List Value} (h : w.ownsRow base e size v n xs) : ∃ a c, v = .slice a n c := by
  obtain ⟨_, ⟨rfl, rfl⟩ | ⟨b, cap, cur, rfl, _⟩⟩ := h
  · exact ⟨_, _, rfl⟩
  · exact ⟨_, _, rfl⟩
theorem zero_row {w : World} (e : TypeId) (size G : Nat) (cur : Array Value) (hs : cur.size = G * size) (hG : G ≤ maxLen) : (w.drew.alloc (.cells cur e)).ownsRow w.heap.size e size (.slice (some ⟨w.heap.size, 0, none⟩) 0 G) 0 [] :=
  ⟨by simp, .inr ⟨w.heap.size, G, cur, rfl, Nat.le_refl _, heap_alloc_new w.drew _, Nat.zero_le _, hG, hs, by simp⟩⟩

def appI (a b : Row) : Row := ⟨a.len + b.len, fun i => if i < a.len then a.at_ i else b.at_ (i - a.len)⟩
def catI (R : Nat → Row) : Nat → Row
  | 0 => ⟨0, fun _ => ⟨0, 0, ⟨#[]⟩⟩⟩
  | m + 1 => appI (catI R m) (R m)
theorem catI_mono (R : Nat → Row) {k m : Nat} (h : k ≤ m) : (catI R k).len ≤ (catI R m).len := by
  induction m with
  | zero => obtain rfl : k = 0 := by omega
            exact Nat.le_refl _
  | succ m ih =>
    by_cases e : k = m + 1
    · rw [e]; exact Nat.le_refl _
    · exact Nat.le_trans (ih (by omega)) (Nat.le_add_right _ _)
theorem cells_appI (a b : Row) : itCells (appI a b).at_ (appI a b).len = itCells a.at_ a.len ++ itCells b.at_ b.len := by
  apply List.ext_getElem?
  intro j
  have hl : (appI a b).len = a.len + b.len := rfl
  by_cases h1 : j < a.len * 3
  · rw [List.getElem?_append_left (by rw [itCells_len]; omega), itCells_at _ _ _ (by omega), itCells_at _ _ _ h1]
    rw [show (appI a b).at_ (j / 3) = a.at_ (j / 3) from if_pos (by omega)]
  · rw [List.getElem?_append_right (by rw [itCells_len]; omega), itCells_len]
    by_cases h2 : j < (appI a b).len * 3
    · rw [itCells_at _ _ _ h2, itCells_at _ _ _ (by omega)]
      rw [show (appI a b).at_ (j / 3) = b.at_ (j / 3 - a.len) from if_neg (by omega), show (j - a.len * 3) / 3 = j / 3 - a.len by omega, show (j - a.len * 3) % 3 = j % 3 by omega]
    · rw [List.getElem?_eq_none (by rw [itCells_len]; omega), List.getElem?_eq_none (by rw [itCells_len]; omega)]
/-- lists of them in memory -/
def SeqsI (w : World) (b off m : Nat) (R : Nat → Row) : Prop := ∀ i, i < m → ∃ u, w.cell? ⟨b, off + i, none⟩ = some u ∧ ItsIs w u (R i).len (R i).at_
theorem SeqsI.below {w w' : World} {b off m B : Nat} {R : Nat → Row} (h : SeqsI w b off m R) (hB : b < w.heap.size) (hb : Below w.heap.size w w') : SeqsI w' b off m R := fun i hi => by
  obtain ⟨u, h1, h2⟩ := h i hi
  exact ⟨u, (hb.cell (p := ⟨b, off + i, none⟩) hB).trans h1, h2.below hb⟩
def appS (a b : Txts) : Txts := ⟨a.len + b.len, fun i => if i < a.len then a.at_ i else b.at_ (i - a.len)⟩
def catS (R : Nat → Txts) : Nat → Txts
  | 0 => ⟨0, fun _ => ⟨#[]⟩⟩
  | m + 1 => appS (catS R m) (R m)
theorem catS_mono (R : Nat → Txts) {k m : Nat} (h : k ≤ m) : (catS R k).len ≤ (catS R m).len := by
  induction m with
  | zero => obtain rfl : k = 0 := by omega
            exact Nat.le_refl _
  | succ m ih =>
    by_cases e : k = m + 1
    · rw [e]; exact Nat.le_refl _
    · exact Nat.le_trans (ih (by omega)) (Nat.le_add_right _ _)
theorem cells_appS (a b : Txts) : strCells (appS a b).at_ (appS a b).len = strCells a.at_ a.len ++ strCells b.at_ b.len := by
  apply List.ext_getElem?
  intro j
  have hl : (appS a b).len = a.len + b.len := rfl
  by_cases h1 : j < a.len * 1
  · rw [List.getElem?_append_left (by rw [strCells_len]; omega), strCells_at _ _ _ (by omega), strCells_at _ _ _ (by omega)]
    rw [show (appS a b).at_ j = a.at_ j from if_pos (by omega)]
  · rw [List.getElem?_append_right (by rw [strCells_len]; omega), strCells_len]
    by_cases h2 : j < (appS a b).len * 1
    · rw [strCells_at _ _ _ (by omega), strCells_at _ _ _ (by omega)]
      rw [show (appS a b).at_ j = b.at_ (j - a.len) from if_neg (by omega), Nat.mul_one]
    · rw [List.getElem?_eq_none (by rw [strCells_len]; omega), List.getElem?_eq_none (by rw [strCells_len]; omega)]
/-- lists of them in memory -/
def SeqsS (w : World) (b off m : Nat) (R : Nat → Txts) : Prop := ∀ i, i < m → ∃ u, w.cell? ⟨b, off + i, none⟩ = some u ∧ StrsIs w u (R i).len (R i).at_
theorem SeqsS.below {w w' : World} {b off m B : Nat} {R : Nat → Txts} (h : SeqsS w b off m R) (hB : b < w.heap.size) (hb : Below w.heap.size w w') : SeqsS w' b off m R := fun i hi => by
  obtain ⟨u, h1, h2⟩ := h i hi
  exact ⟨u, (hb.cell (p := ⟨b, off + i, none⟩) hB).trans h1, h2.below hb⟩
end Go.Proofs.YtjgihlmefaakkaaDoor
