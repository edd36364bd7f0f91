/-
  FACTS for pleacherkeep.ProjectBack: columns that are turned and turned back.
-/
import Derived.Test.YtpheiklbngmmnaaDoorKpUn
import Derived.Test.YtpheiklbngmmnaaDoorRlProjI
import Derived.Test.YtpheiklbngmmnaaDoorRlChain
set_option linter.unusedVariables false
namespace Go.Proofs.YtpheiklbngmmnaaDoor
set_option maxRecDepth 100000
open Go.RowKit

def nX : ByteArray := ⟨#[120]⟩
def nY : ByteArray := ⟨#[121]⟩
def nZ : ByteArray := ⟨#[122]⟩
def nC : ByteArray := ⟨#[99]⟩
def triC (a b c : ByteArray) (i : Nat) : ByteArray := if i = 0 then a else if i = 1 then b else c
theorem one_ne {p q : UInt8} (h : (p == q) = false) : ((⟨#[p]⟩ : ByteArray).toList == (⟨#[q]⟩ : ByteArray).toList) = false := by
  rw [ByteArray.toList_eq, ByteArray.toList_eq]
  show ([p] == [q]) = false
  simp only [List.cons_beq_cons, h, Bool.false_and]
theorem col_at0 (a b : ByteArray) : colI (twoC a b) 2 a = (0 : Nat) := colI_hit (by decide) (by simp [twoC]) (fun j hj => by omega)
theorem col_at1 {a b : ByteArray} (h : (a.toList == b.toList) = false) : colI (twoC a b) 2 b = (1 : Nat) := by
  refine colI_hit (by decide) (by simp [twoC]) (fun j hj => ?_)
  obtain rfl : j = 0 := by omega
  exact h
theorem col3_at0 (a b c : ByteArray) : colI (triC a b c) 3 a = (0 : Nat) := colI_hit (by decide) (by simp [triC]) (fun j hj => by omega)
theorem col3_at1 {a b c : ByteArray} (h : (a.toList == b.toList) = false) : colI (triC a b c) 3 b = (1 : Nat) := by
  refine colI_hit (by decide) (by simp [triC]) (fun j hj => ?_)
  obtain rfl : j = 0 := by omega
  exact h
theorem tri_fine (a b c : ByteArray) (ha : a.size ≤ 1) (hb : b.size ≤ 1) (hc : c.size ≤ 1) : StrsFine 3 (triC a b c) := by
  refine ⟨by decide, fun i hi => ?_⟩
  unfold triC maxLen
  split
  · omega
  · split <;> omega
theorem one_fine (a : ByteArray) (ha : a.size ≤ 1) : StrsFine 1 (fun _ => a) := ⟨by decide, fun i hi => by show a.size ≤ _; unfold maxLen; omega⟩
theorem cols_tri {a b c : ByteArray} (ha : a.size = 1) (hb : b.size = 1) (hc : c.size = 1) (h : (a.toList == b.toList) = false) (h' : (a.toList == c.toList) = false) (h'' : (b.toList == c.toList) = false) : colsF (triC a b c) 3 = 0 := by
  refine colsF_ok (by decide) fun j hj => ?_
  have : j = 0 ∨ j = 1 ∨ j = 2 := by omega
  rcases this with rfl | rfl | rfl
  · exact colE_ok (by show ¬ (a.size < 1 ∨ 20 < a.size); omega) (among_no fun j hj => by omega)
  · refine colE_ok (by show ¬ (b.size < 1 ∨ 20 < b.size); omega) (among_no fun j hj => ?_)
    obtain rfl : j = 0 := by omega
    exact h
  · refine colE_ok (by show ¬ (c.size < 1 ∨ 20 < c.size); omega) (among_no fun j hj => ?_)
    have : j = 0 ∨ j = 1 := by omega
    rcases this with rfl | rfl
    · exact h'
    · exact h''
theorem cols_xyz : colsF (triC nX nY nZ) 3 = 0 := cols_tri rfl rfl rfl (one_ne (by decide)) (one_ne (by decide)) (one_ne (by decide))
theorem cols_xx : colsF (twoC nX nX) 2 = 7 := by
  have h : colE (twoC nX nX) 1 = 7 := colE_twice (by show ¬ (nX.size < 1 ∨ 20 < nX.size); decide) (among_yes (j := 0) (by decide) (by simp [twoC]))
  rw [colsF_err (k := 1) (by decide) (by decide) (fun j hj => ?_) (by rw [h]; decide), h]
  obtain rfl : j = 0 := by omega
  exact colE_ok (by show ¬ (nX.size < 1 ∨ 20 < nX.size); decide) (among_no fun j hj => by omega)
/-- the places of b, a, b among a, b -/
theorem p_bab : (∀ i, i < 3 → colI (twoC nA nB) 2 (triC nB nA nB i) = ((if i = 1 then 0 else 1 : Nat) : Int)) := fun i hi => by
  have : i = 0 ∨ i = 1 ∨ i = 2 := by omega
  rcases this with rfl | rfl | rfl
  · exact col_at1 ab_ne
  · exact col_at0 _ _
  · exact col_at1 ab_ne
/-- .. of y, x among x, y, z -/
theorem p_yx (t : Nat) : colI (triC nX nY nZ) 3 (twoC nY nX t) = ((if t = 0 then 1 else 0 : Nat) : Int) := by
  unfold twoC
  by_cases h : t = 0
  · rw [if_pos h, if_pos h]; exact col3_at1 (one_ne (by decide))
  · rw [if_neg h, if_neg h]; exact col3_at0 _ _ _
theorem p_ab (t : Nat) : colI (twoC nA nB) 2 (twoC nA nB t) = ((if t = 0 then 0 else 1 : Nat) : Int) := by
  rw [show twoC nA nB t = (if t = 0 then nA else nB) from rfl]
  by_cases h : t = 0
  · rw [if_pos h, if_pos h]; exact col_at0 _ _
  · rw [if_neg h, if_neg h]; exact col_at1 ab_ne
theorem p_c : colI (twoC nA nB) 2 nC = -1 := colI_miss fun j hj => by
  have : j = 0 ∨ j = 1 := by omega
  rcases this with rfl | rfl
  · exact one_ne (by decide)
  · exact one_ne (by decide)
theorem nn {k : Nat} : ¬ ((k : Int) = -1) := by omega
/-- the rows b, a, b -/
def babR (X : Nat → Rw) : Nat → Row := prR (twoC nA nB) 2 (triC nB nA nB) 3 (rawR X)
theorem pr1 (X : Nat → Rw) (m : Nat) (hm : m ≤ 12) : prF (twoC nA nB) 2 (rawR X) m (triC nX nY nZ) 3 (triC nB nA nB) 3 = 0 := by
  unfold prF
  rw [if_pos (rel_ab X m hm), if_pos ⟨rfl, found_all fun i hi => by rw [p_bab i hi]; exact nn⟩]
  exact made_0 cols_xyz (by omega)
theorem bab_row (X : Nat → Rw) (i : Nat) : rowE 3 (babR X) i = 0 := by
  refine rowE_ok rfl (all_yes fun k hk => ?_)
  show mayI ((rawR X i).at_ _) = true
  unfold rawR
  simp only
  split
  · exact may_x _
  · exact (may_y _).1
theorem bab_fine (X : Nat → Rw) (m : Nat) (hm : m ≤ 12) : RowsFine m (babR X) := by
  refine ⟨by omega, fun i hi => ⟨?_, fun k hk => ?_⟩⟩
  · show 3 * 32 ≤ _; decide
  · show (((rawR X i).at_ _).s).size ≤ _
    unfold rawR maxLen
    simp only
    split
    · show (0 : Nat) ≤ _; omega
    · have := (may_y (X i)).2; omega
theorem pr2 (X : Nat → Rw) (m : Nat) (hm : m ≤ 12) : prF (triC nX nY nZ) 3 (babR X) m (twoC nA nB) 2 (twoC nY nX) 2 = 0 := by
  unfold prF
  rw [if_pos (relF_ok (made_0 cols_xyz (by omega)) (fun j _ => bab_row X j)), if_pos ⟨rfl, found_all fun i hi => by rw [p_yx i]; exact nn⟩]
  exact made_0 cols_ab (by omega)
theorem pr3 (X : Nat → Rw) (m : Nat) (hm : m ≤ 12) : prF (twoC nA nB) 2 (rawR X) m (twoC nX nX) 2 (twoC nA nB) 2 = 7 := by
  unfold prF
  rw [if_pos (rel_ab X m hm), if_pos ⟨rfl, found_all fun i hi => by rw [p_ab i]; exact nn⟩]
  exact madeF_err cols_xx (by decide)
theorem pr4 (X : Nat → Rw) (m : Nat) (hm : m ≤ 12) : prF (twoC nA nB) 2 (rawR X) m (fun _ => nX) 1 (fun _ => nC) 1 = 9 := by
  unfold prF
  rw [if_pos (rel_ab X m hm), if_neg]
  rintro ⟨_, h⟩
  have := (found_yes h 0 (by decide)).1
  rw [p_c] at this
  omega
/-- turned back -/
theorem back_row (X : Nat → Rw) (i : Nat) : rawR X i = prR (triC nX nY nZ) 3 (twoC nY nX) 2 (babR X) i := by
  unfold babR prR
  simp only
  show (⟨2, (rawR X i).at_⟩ : Row) = _
  congr 1
  funext t
  have h1 : prP (triC nX nY nZ) 3 (twoC nY nX) t = if t = 0 then 1 else 0 := by unfold prP; rw [p_yx]; rfl
  rw [h1]
  have h2 : ∀ j, j < 3 → prP (twoC nA nB) 2 (triC nB nA nB) j = if j = 1 then 0 else 1 := fun j hj => by unfold prP; rw [p_bab j hj]; rfl
  by_cases h : t = 0
  · rw [if_pos h, h2 1 (by decide), if_pos rfl, h]
  · rw [if_neg h, h2 0 (by decide), if_neg (by decide)]
    unfold rawR
    simp only
    rw [if_neg h, if_neg (by decide)]
/-- lists of texts that are written down -/
theorem two_lit (w : World) (a b : ByteArray) (T : TypeId) : StrsIs (w.alloc (.cells #[.string a, .string b] T)) (.slice (some ⟨w.heap.size, 0, none⟩) 2 2) 2 (twoC a b) :=
  ⟨_, _, rfl, Nat.le_refl _, by unfold maxLen; omega, (fun h => nomatch h), fun _ => ⟨_, _, rfl, by simp, fun i hi => by
    have : i = 0 ∨ i = 1 := by omega
    rcases this with rfl | rfl <;> simp [twoC]⟩⟩
theorem tri_lit (w : World) (a b c : ByteArray) (T : TypeId) : StrsIs (w.alloc (.cells #[.string a, .string b, .string c] T)) (.slice (some ⟨w.heap.size, 0, none⟩) 3 3) 3 (triC a b c) :=
  ⟨_, _, rfl, Nat.le_refl _, by unfold maxLen; omega, (fun h => nomatch h), fun _ => ⟨_, _, rfl, by simp, fun i hi => by
    have : i = 0 ∨ i = 1 ∨ i = 2 := by omega
    rcases this with rfl | rfl | rfl <;> simp [triC]⟩⟩
theorem one_lit (w : World) (a : ByteArray) (T : TypeId) : StrsIs (w.alloc (.cells #[.string a] T)) (.slice (some ⟨w.heap.size, 0, none⟩) 1 1) 1 (fun _ => a) :=
  ⟨_, _, rfl, Nat.le_refl _, by unfold maxLen; omega, (fun h => nomatch h), fun _ => ⟨_, _, rfl, by simp, fun i hi => by
    obtain rfl : i = 0 := by omega
    simp⟩⟩
/-- Project that goes well: its answer as slices -/
theorem project_ok (c q d l : Value) (n m kd ko : Nat) (C D O : Nat → ByteArray) (R : Nat → Row) (w : World) (h0 : prF C n R m D kd O ko = 0) (hc : StrsIs w c n C) (hq : RowsIs w q m R) (hf : StrsFine n C) (hg : RowsFine m R) (hd : StrsIs w d kd D) (hfd : StrsFine kd D) (hl : StrsIs w l ko O) (hfl : StrsFine ko O) (hT : Tabs w) :
    Calls Tryd.prog 5 #[.agg #[c, q], d, l] w fun e w' => ∃ a3 k3 b3 l3, e = .returned (.tuple #[.agg #[.slice a3 kd k3, .slice b3 m l3], .int .i64 0]) ∧ CopyIs w' (.slice a3 kd k3) (.slice b3 m l3) kd m D (prR C n O ko R) ∧ FreshRel w w' (.slice a3 kd k3) (.slice b3 m l3) kd m D (prR C n O ko R) ∧ Chain w w' := by
  have h := project_is c q d l n m kd ko C D O R w hc hq hf hg hd hfd hl hfl hT
  rw [h0] at h
  refine h.mono ?_
  rintro e w' ⟨c1, q1, h3, h4, h5⟩
  have h4' : FreshRel w w' c1 q1 kd m D (prR C n O ko R) := h4
  have h6 := h4' w' (Nat.le_refl _) (fun _ _ _ => rfl)
  obtain ⟨h7, h8⟩ := h6
  have h9 := h8
  have h10 := h7
  obtain ⟨a3, k3, rfl, _⟩ := h7
  obtain ⟨b3, l3, rfl, _⟩ := h8
  exact ⟨a3, k3, b3, l3, h3, ⟨h10, h9⟩, h4', h5⟩
theorem project_no (c q d l : Value) (n m kd ko : Nat) (C D O : Nat → ByteArray) (R : Nat → Row) (F : Int) (hF : F ≠ 0) (w : World) (h0 : prF C n R m D kd O ko = F) (hc : StrsIs w c n C) (hq : RowsIs w q m R) (hf : StrsFine n C) (hg : RowsFine m R) (hd : StrsIs w d kd D) (hfd : StrsFine kd D) (hl : StrsIs w l ko O) (hfl : StrsFine ko O) (hT : Tabs w) :
    Calls Tryd.prog 5 #[.agg #[c, q], d, l] w fun e w' => ∃ a3 k3 b3 l3, e = .returned (.tuple #[.agg #[.slice a3 0 k3, .slice b3 0 l3], .int .i64 F]) ∧ Chain w w' := by
  have h := project_is c q d l n m kd ko C D O R w hc hq hf hg hd hfd hl hfl hT
  rw [h0, show okN F kd = 0 from if_neg hF, show okN F m = 0 from if_neg hF] at h
  refine h.mono ?_
  rintro e w' ⟨c1, q1, h3, h4, h5⟩
  obtain ⟨h7, h8⟩ := h4 w' (Nat.le_refl _) (fun _ _ _ => rfl)
  obtain ⟨a3, k3, rfl, _⟩ := h7
  obtain ⟨b3, l3, rfl, _⟩ := h8
  exact ⟨a3, k3, b3, l3, h3, h5⟩
/-- .. the block given as a number -/
theorem two_litb (w : World) (a b : ByteArray) (T : TypeId) (g : Nat) (h : w.heap.size = g) : StrsIs (w.alloc (.cells #[.string a, .string b] T)) (.slice (some ⟨g, 0, none⟩) 2 2) 2 (twoC a b) := h ▸ two_lit w a b T
theorem tri_litb (w : World) (a b c : ByteArray) (T : TypeId) (g : Nat) (h : w.heap.size = g) : StrsIs (w.alloc (.cells #[.string a, .string b, .string c] T)) (.slice (some ⟨g, 0, none⟩) 3 3) 3 (triC a b c) := h ▸ tri_lit w a b c T
theorem one_litb (w : World) (a : ByteArray) (T : TypeId) (g : Nat) (h : w.heap.size = g) : StrsIs (w.alloc (.cells #[.string a] T)) (.slice (some ⟨g, 0, none⟩) 1 1) 1 (fun _ => a) := h ▸ one_lit w a T
theorem carry2 {w wr : World} {b : Nat} {x y : Value} (h : Chain w wr) (h0 : w.cell? ⟨b, 0, none⟩ = some x) (h1 : w.cell? ⟨b, 1, none⟩ = some y) (hb : b < w.heap.size) : wr.cell? ⟨b, 0, none⟩ = some x ∧ wr.cell? ⟨b, 1, none⟩ = some y ∧ b < wr.heap.size :=
  ⟨(Below.cell h (p := ⟨b, 0, none⟩) hb).trans h0, (Below.cell h (p := ⟨b, 1, none⟩) hb).trans h1, Nat.lt_of_lt_of_le hb (Below.size h)⟩
end Go.Proofs.YtpheiklbngmmnaaDoor
