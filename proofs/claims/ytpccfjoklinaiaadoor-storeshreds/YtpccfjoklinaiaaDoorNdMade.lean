/-
  COPIES OF NODES, PLAINLY: what Copy makes (P2.5), and its laws.
-/
import Derived.Test.YtpccfjoklinaiaaDoorNdSame
import Derived.IntWalk
import Derived.Laws.OwnMore
set_option linter.unusedVariables false
namespace Go.Proofs.YtpccfjoklinaiaaDoor
open Go.RowKit

/-- the level of the node that is copied -/
def topLv (F : Nat → Nd) (par : Int) : Int := if 0 ≤ par then wrap64 ((F par.toNat).level + 1) else 0
/-- the k-th node of a copy -/
def copyN (E F : Nat → Nd) (i m : Nat) (par : Int) (k : Nat) : Nd :=
  if k = 0 then ⟨(E i).kind, (E i).name, (E i).value, (E i).size, topLv F par, par⟩
  else ⟨(E (i + k)).kind, (E (i + k)).name, (E (i + k)).value, (E (i + k)).size, wrap64 ((E (i + k)).level + wrap64 (topLv F par - (E i).level)), (E (i + k)).parent + ((m : Int) - i)⟩
/-- what Copy makes -/
def madeN (E F : Nat → Nd) (i m : Nat) (par : Int) (j : Nat) : Nd := if j < m then F j else copyN E F i m par (j - m)
theorem madeN_old {E F : Nat → Nd} {i m : Nat} {par : Int} {j : Nat} (h : j < m) : madeN E F i m par j = F j := if_pos h
theorem madeN_new (E F : Nat → Nd) (i m : Nat) (par : Int) (k : Nat) : madeN E F i m par (m + k) = copyN E F i m par k := by
  unfold madeN
  rw [if_neg (by omega), show m + k - m = k by omega]

theorem wrap_right (a b : Int) : wrap64 (a + wrap64 b) = wrap64 (a + b) := by
  unfold wrap64; omega
theorem wrap_left (a b : Int) : wrap64 (wrap64 a + b) = wrap64 (a + b) := by
  unfold wrap64; omega

/-- within a node all parents are within it, or it -/
theorem up_within {E : Nat → Nd} {n i : Nat} (h : fitTo E n n) (hi : i < n) : ∀ j, i < j → (j : Int) ≤ i + (E i).size → i + 1 ≤ upW E j j := by
  intro j
  induction j using Nat.strongRecOn with
  | ind j ih =>
    intro hij hjs
    have hsz := (fit_parts (h i hi)).2.2.1
    have key : ∀ q, i + 1 ≤ q → q ≤ j → i + 1 ≤ upW E j q := by
      intro q
      induction q using Nat.strongRecOn with
      | ind q ihq =>
        intro h1 h2
        match q, h1, h2, ihq with
        | p + 1, h1, h2, ihq =>
          by_cases hst : (p : Int) + (E p).size < j
          · by_cases hp : p = i
            · subst hp; omega
            · obtain ⟨r, hr, hpar, hup⟩ := fit_parent (h p (by omega))
              rw [upW_go hst hpar hr]
              have h3 := ih p (by omega) (by omega) (by omega)
              rw [hup] at h3
              exact ihq r (by omega) h3 (by omega)
          · rw [upW_stay hst]; omega
    exact key j (by omega) (Nat.le_refl _)
/-- a node within: its parent, and its level -/
theorem within_up {E : Nat → Nd} {n i j : Nat} (h : fitTo E n n) (hi : i < n) (hij : i < j) (hj : (j : Int) ≤ i + (E i).size) : ∃ p : Nat, i ≤ p ∧ p < j ∧ (E j).parent = p ∧ (E j).level = (E p).level + 1 := by
  have hsz := (fit_parts (h i hi)).2.2.1
  have h1 := up_within h hi j hij hj
  have hf := h j (by omega)
  cases hu : upW E j j with
  | zero => omega
  | succ p =>
    have h2 := upW_le E j j
    refine ⟨p, by omega, by omega, ?_, (fit_in hf hu).1⟩
    have := (fit_parts hf).2.2.2
    rw [this, upI, hu]; omega
/-- the level of a copy is one more than that of its parent's copy -/
theorem copyN_level {E F : Nat → Nd} {n i m : Nat} {par : Int} {k : Nat} (h : fitTo E n n) (hi : i < n) (hk : 0 < k) (hkz : (k : Int) ≤ (E i).size) : ∃ q : Nat, q < k ∧ (E (i + k)).parent + ((m : Int) - i) = ((m + q : Nat) : Int) ∧
    (copyN E F i m par k).level = wrap64 ((copyN E F i m par q).level + 1) := by
  obtain ⟨p, h1, h2, h3, h4⟩ := within_up h hi (j := i + k) (by omega) (by omega)
  refine ⟨p - i, by omega, by omega, ?_⟩
  unfold copyN
  rw [if_neg (by omega)]
  by_cases e : p = i
  · subst e
    rw [if_pos (by omega), h4, wrap_right]
    show wrap64 ((E p).level + 1 + (topLv F par - (E p).level)) = wrap64 (topLv F par + 1)
    congr 1
    omega
  · rw [if_neg (by omega), show i + (p - i) = p by omega, h4]
    show wrap64 ((E p).level + 1 + wrap64 (topLv F par - (E i).level)) = wrap64 (wrap64 ((E p).level + wrap64 (topLv F par - (E i).level)) + 1)
    rw [wrap_left]
    congr 1
    omega

def six (x : Nd) : List Value := [.int .i64 x.kind, .string x.name, .string x.value, .int .i64 x.size, .int .i64 x.level, .int .i64 x.parent]
theorem ndCells_succ (E : Nat → Nd) (n : Nat) : ndCells E (n + 1) = ndCells E n ++ six (E n) := by
  unfold ndCells
  rw [show (n + 1) * 6 = n * 6 + 1 + 1 + 1 + 1 + 1 + 1 by omega]
  simp only [List.range_succ, List.map_append, List.map_cons, List.map_nil, List.append_assoc, List.cons_append, List.nil_append]
  rw [show (n * 6) / 6 = n by omega, show (n * 6 + 1) / 6 = n by omega, show (n * 6 + 1 + 1) / 6 = n by omega, show (n * 6 + 1 + 1 + 1) / 6 = n by omega, show (n * 6 + 1 + 1 + 1 + 1) / 6 = n by omega, show (n * 6 + 1 + 1 + 1 + 1 + 1) / 6 = n by omega,
    show (n * 6) % 6 = 0 by omega, show (n * 6 + 1) % 6 = 1 by omega, show (n * 6 + 1 + 1) % 6 = 2 by omega, show (n * 6 + 1 + 1 + 1) % 6 = 3 by omega, show (n * 6 + 1 + 1 + 1 + 1) % 6 = 4 by omega, show (n * 6 + 1 + 1 + 1 + 1 + 1) % 6 = 5 by omega]
  rfl
theorem ndCells_congr {E F : Nat → Nd} {n : Nat} (h : ∀ j, j < n → E j = F j) : ndCells E n = ndCells F n := by
  unfold ndCells
  refine List.map_congr_left fun j hj => ?_
  rw [h (j / 6) (by have := List.mem_range.1 hj; omega)]
/-- a row of nodes of one's own -/
def RowIs (w : World) (base : Nat) (v : Value) (n : Nat) (E : Nat → Nd) : Prop := w.ownsRow base 42 6 v n (ndCells E n)
theorem RowIs.shape {w : World} {base : Nat} {v : Value} {n : Nat} {E : Nat → Nd} (h : RowIs w base v n E) : ∃ a cap, v = .slice a n cap := by
  obtain ⟨hl, ⟨rfl, h2⟩ | ⟨g, cap, cur, rfl, _⟩⟩ := h
  · exact ⟨none, 0, by rw [h2]⟩
  · exact ⟨_, cap, rfl⟩
theorem RowIs.alloc {w : World} {base : Nat} {v : Value} {n : Nat} {E : Nat → Nd} (h : RowIs w base v n E) (o : Obj) : RowIs (w.alloc o) base v n E := World.ownsRow.alloc h o
theorem RowIs.pushed {w : World} {base : Nat} {v : Value} {n : Nat} {E : Nat → Nd} {x : Nd} (h : w.ownsRow base 42 6 v (n + 1) (ndCells E n ++ six x)) (hx : E n = x) : RowIs w base v (n + 1) E := by
  unfold RowIs
  rw [ndCells_succ, hx]
  exact h
theorem RowIs.is {w : World} {base : Nat} {v : Value} {n : Nat} {E : Nat → Nd} (h : RowIs w base v n E) : NdsIs w v n E := by
  have h8 := h
  obtain ⟨hl, ⟨rfl, h2⟩ | ⟨g, cap, cur, rfl, q1, q2, q3, q4, _⟩⟩ := h
  · subst h2
    exact ⟨none, 0, rfl, Nat.le_refl _, Nat.zero_le _, fun h => by omega⟩
  · exact ⟨_, cap, rfl, q3, q4, fun _ => ⟨g, 0, rfl, (Array.getElem?_eq_some_iff.1 q2).1, nds_of_own h8⟩⟩
theorem RowIs.heap {w w' : World} {base : Nat} {v : Value} {n : Nat} {E : Nat → Nd} (h : RowIs w base v n E) (e : w'.heap = w.heap) : RowIs w' base v n E := by
  unfold RowIs World.ownsRow at h ⊢
  rw [e]
  exact h
theorem NdsAt.back {w w' : World} {b off n B : Nat} {E : Nat → Nd} (h : NdsAt w' b off n E) (hb : Below B w w') (hB : b < B) : NdsAt w b off n E := by
  intro i hi
  obtain ⟨h1, h2, h3, h4, h5, h6⟩ := h i hi
  have k : ∀ o, w.cell? ⟨b, o, none⟩ = w'.cell? ⟨b, o, none⟩ := fun o => (hb.cell (p := ⟨b, o, none⟩) hB).symm
  exact ⟨(k _).trans h1, (k _).trans h2, (k _).trans h3, (k _).trans h4, (k _).trans h5, (k _).trans h6⟩
theorem below_alloc2 {B : Nat} {X w : World} {o : Obj} (h : Below B X w) (hX : B ≤ X.heap.size) : Below B X (w.alloc o) := h.alloc (Nat.le_trans hX h.size) o
theorem six_len (x : Nd) : (six x).length = 1 * 6 := rfl
theorem six_one (x : Nd) : ∀ u ∈ six x, u.oneCell' = true := by
  intro u hu
  simp [six] at hu
  rcases hu with rfl | rfl | rfl | rfl | rfl | rfl <;> rfl
theorem six_in {w : World} (b : Nat) (x : Nd) : ∀ j u, (six x)[j]? = some u → (w.alloc (.cells #[.int .i64 x.kind, .string x.name, .string x.value, .int .i64 x.size, .int .i64 x.level, .int .i64 x.parent] 42)).cell? ((⟨w.heap.size, 0, none⟩ : Addr).add j) = some u := by
  intro j u hj
  have hj6 : j < 6 := (List.getElem?_eq_some_iff.1 hj).1
  match j, hj6 with
  | 0, _ => simp [six] at hj; subst hj; simp [Addr.add]
  | 1, _ => simp [six] at hj; subst hj; simp [Addr.add]
  | 2, _ => simp [six] at hj; subst hj; simp [Addr.add]
  | 3, _ => simp [six] at hj; subst hj; simp [Addr.add]
  | 4, _ => simp [six] at hj; subst hj; simp [Addr.add]
  | 5, _ => simp [six] at hj; subst hj; simp [Addr.add]
end Go.Proofs.YtpccfjoklinaiaaDoor
