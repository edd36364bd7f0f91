/-
  EVENTS OF NODES, PLAINLY: nodes that may be are a tree; the events of a node, by its children, and by one pass with a stack. Nothing of the program.
-/
import Derived.Test.YtnfljohddpadhaaDoorNd
namespace Go.Proofs.YtnfljohddpadhaaDoor
open Go.RowKit

/-- how many are within a node -/
def zN (E : Nat → Nd) (i : Nat) : Nat := (E i).size.toNat
theorem fit_all {E : Nat → Nd} {n i : Nat} (h : fitB E n i = true) : kindB (E i) = true ∧ 0 ≤ (E i).size ∧ (E i).size ≤ (n : Int) - 1 - i ∧ (E i).parent = (upW E i i : Int) - 1 ∧
    (∀ p, upW E i i = p + 1 → (i : Int) + (E i).size ≤ p + (E p).size ∧ (E i).kind ≠ 6) := by
  unfold fitB placeB at h
  simp only [Bool.and_eq_true, decide_eq_true_eq] at h
  obtain ⟨h0, ⟨h1, h2, h3⟩, h4⟩ := h
  refine ⟨h0, h1, h2, h3, fun p hp => ?_⟩
  rw [hp] at h4
  simp only [decide_eq_true_eq] at h4
  exact ⟨h4.2.1, h4.2.2.1⟩

/-- nodes that are a tree -/
structure Tree (E : Nat → Nd) (N : Nat) : Prop where
  sz : ∀ i, i < N → (E i).size = (zN E i : Int) ∧ i + zN E i < N
  nest : ∀ c k, c < N → c < k → k ≤ c + zN E c → k + zN E k ≤ c + zN E c
  par : ∀ c k, c < N → c < k → k ≤ c + zN E c → (c : Int) ≤ (E k).parent
  first : ∀ c, c < N → 1 ≤ zN E c → (E (c + 1)).parent = (c : Int)
  next : ∀ n c, n < N → n < c → (E c).parent = (n : Int) → c + 1 + zN E c ≤ n + zN E n → (E (c + 1 + zN E c)).parent = (n : Int)
  kin : ∀ c k, c < N → c < k → k ≤ c + zN E c → (E k).kind ≠ 6
  leaf : ∀ i, i < N → (E i).kind ≠ 1 → (E i).kind ≠ 6 → zN E i = 0

theorem tree_sz {E : Nat → Nd} {N : Nat} (h : fitTo E N N) (i : Nat) (hi : i < N) : (E i).size = (zN E i : Int) ∧ i + zN E i < N := by
  obtain ⟨_, h1, h2, _, _⟩ := fit_all (h i hi)
  unfold zN
  omega
theorem tree_up {E : Nat → Nd} {N : Nat} (h : fitTo E N N) : ∀ k c, c < N → c < k → k ≤ c + zN E c → c + 1 ≤ upW E k k := by
  intro k
  induction k using Nat.strongRecOn with
  | ind k ih =>
    intro c hc hck hkc
    have hcs := tree_sz h c hc
    have key : ∀ q, q ≤ k → c + 1 ≤ q → c + 1 ≤ upW E k q := by
      intro q
      induction q using Nat.strongRecOn with
      | ind q ih2 =>
        intro hq hcq
        match q, ih2, hq, hcq with
        | p + 1, ih2, hq, hcq =>
          rw [upW]
          by_cases hlt : (p : Int) + (E p).size < k
          · rw [if_pos hlt]
            have hpc : p ≠ c := by rintro rfl; omega
            have hp := ih p (by omega) c hc (by omega) (by omega)
            obtain ⟨_, _, _, h3, _⟩ := fit_all (h p (by omega))
            exact ih2 (min p ((E p).parent + 1).toNat) (by omega) (by omega) (by omega)
          · rw [if_neg hlt]; omega
    exact key k (Nat.le_refl _) (by omega)
theorem tree_nest {E : Nat → Nd} {N : Nat} (h : fitTo E N N) : ∀ k c, c < N → c < k → k ≤ c + zN E c → k + zN E k ≤ c + zN E c := by
  intro k
  induction k using Nat.strongRecOn with
  | ind k ih =>
    intro c hc hck hkc
    have hcs := tree_sz h c hc
    have hks := tree_sz h k (by omega)
    have hu := tree_up h k c hc hck hkc
    obtain ⟨p, hp⟩ : ∃ p, upW E k k = p + 1 := ⟨upW E k k - 1, by omega⟩
    have hpk := upW_le E k k
    obtain ⟨_, _, _, _, h4⟩ := fit_all (h k (by omega))
    have h5 := (h4 p hp).1
    have hps := tree_sz h p (by omega)
    by_cases e : p = c
    · subst e; omega
    · have := ih p (by omega) c hc (by omega) (by omega)
      omega
theorem tree_of {E : Nat → Nd} {N : Nat} (h : fitTo E N N) : Tree E N where
  sz := tree_sz h
  nest := fun c k hc h1 h2 => tree_nest h k c hc h1 h2
  par := fun c k hc h1 h2 => by
    have hcs := tree_sz h c hc
    have := tree_up h k c hc h1 h2
    obtain ⟨_, _, _, h3, _⟩ := fit_all (h k (by omega))
    omega
  first := fun c hc h1 => by
    have hcs := tree_sz h c hc
    obtain ⟨_, _, _, h3, _⟩ := fit_all (h (c + 1) (by omega))
    rw [h3, upW_stay (by omega)]
    omega
  next := fun n c hn hnc hp hle => by
    have hns := tree_sz h n hn
    have hcs := tree_sz h c (by omega)
    have key : ∀ q, c + 1 ≤ q → q ≤ c + 1 + zN E c → upW E (c + 1 + zN E c) q = n + 1 := by
      intro q
      induction q using Nat.strongRecOn with
      | ind q ih =>
        intro h1 h2
        match q, ih, h1, h2 with
        | p + 1, ih, h1, h2 =>
          by_cases e : p = c
          · subst e
            rw [upW_go (q := n + 1) (by omega) (by omega) (by omega), upW_stay (by omega)]
          · have hn1 := tree_nest h p c (by omega) (by omega) (by omega)
            have hps := tree_sz h p (by omega)
            have hup := tree_up h p c (by omega) (by omega) (by omega)
            have hle := upW_le E p p
            obtain ⟨_, _, _, h3, _⟩ := fit_all (h p (by omega))
            rw [upW_go (q := upW E p p) (by omega) (by omega) (by omega)]
            exact ih (upW E p p) (by omega) (by omega) (by omega)
    obtain ⟨_, _, _, h3, _⟩ := fit_all (h (c + 1 + zN E c) (by omega))
    rw [h3, key _ (by omega) (Nat.le_refl _)]
    omega
  kin := fun c k hc h1 h2 => by
    have hcs := tree_sz h c hc
    have hu := tree_up h k c hc h1 h2
    obtain ⟨_, _, _, _, h4⟩ := fit_all (h k (by omega))
    exact (h4 (upW E k k - 1) (by omega)).2
  leaf := fun i hi h1 h6 => by
    obtain ⟨h0, hz, _, _, _⟩ := fit_all (h i hi)
    unfold kindB at h0
    rw [if_neg h6, if_neg h1] at h0
    unfold zN
    by_cases h2 : (E i).kind = 2
    · rw [if_pos h2] at h0
      have := (of_decide_eq_true h0).2.1
      omega
    · rw [if_neg h2] at h0
      by_cases h3 : (E i).kind = 3 ∨ (E i).kind = 4
      · rw [if_pos h3] at h0
        have := (of_decide_eq_true h0).2.1
        omega
      · rw [if_neg h3] at h0; cases h0

/-- an event -/
structure Evt where
  kind : Int
  name : ByteArray
  value : ByteArray
def evC (t : Evt) : List Value := [.int .i64 t.kind, .string t.name, .string t.value]
def evtCells (L : List Evt) : List Value := L.flatMap evC
theorem evtCells_snoc (L : List Evt) (t : Evt) : evtCells (L ++ [t]) = evtCells L ++ evC t := by simp [evtCells]
theorem evtCells_app (L M : List Evt) : evtCells (L ++ M) = evtCells L ++ evtCells M := by simp [evtCells]
theorem evtCells_len (L : List Evt) : (evtCells L).length = L.length * 3 := by
  induction L with
  | nil => rfl
  | cons t L ih => simp [evtCells, evC] at ih ⊢; omega
def endE : Evt := ⟨5, ⟨#[]⟩, ⟨#[]⟩⟩
def startOf (x : Nd) : List Evt := if x.kind = 6 then [] else [⟨x.kind, x.name, x.value⟩]
def endOf (x : Nd) : List Evt := if x.kind = 1 then [endE] else []
/-- the events of the nodes from a on, ahead of b, with what is within them -/
def frF (E : Nat → Nd) : Nat → Nat → Nat → List Evt
  | 0, _, _ => []
  | f + 1, a, b => if b ≤ a then [] else startOf (E a) ++ frF E f (a + 1) (a + 1 + zN E a) ++ endOf (E a) ++ frF E f (a + 1 + zN E a) b
/-- nothing goes beyond b -/
def Well (E : Nat → Nd) (a b : Nat) : Prop := ∀ k, a ≤ k → k < b → k + zN E k < b
theorem Well.inner {E : Nat → Nd} {N a : Nat} (hT : Tree E N) (ha : a < N) : Well E (a + 1) (a + 1 + zN E a) := fun k h1 h2 => by
  have := hT.nest a k ha (by omega) (by omega)
  omega
theorem Well.node {E : Nat → Nd} {N a : Nat} (hT : Tree E N) (ha : a < N) : Well E a (a + 1 + zN E a) := fun k h1 h2 => by
  by_cases e : k = a
  · subst e; omega
  · have := hT.nest a k ha (by omega) (by omega)
    omega
theorem Well.from {E : Nat → Nd} {a b c : Nat} (h : Well E a b) (hc : a ≤ c) : Well E c b := fun k h1 h2 => h k (by omega) h2
theorem frF_stable {E : Nat → Nd} {N : Nat} (hT : Tree E N) : ∀ f f' a b, b ≤ N → Well E a b → b - a ≤ f → b - a ≤ f' → frF E f a b = frF E f' a b
  | 0, 0, a, b, _, _, _, _ => rfl
  | 0, f' + 1, a, b, _, _, h, _ => by rw [frF, frF, if_pos (by omega)]
  | f + 1, 0, a, b, _, _, _, h => by rw [frF, frF, if_pos (by omega)]
  | f + 1, f' + 1, a, b, hb, hw, h, h' => by
    rw [frF, frF]
    by_cases hab : b ≤ a
    · rw [if_pos hab, if_pos hab]
    · have ha : a < N := by omega
      have hz := hw a (Nat.le_refl _) (by omega)
      have hs := hT.sz a ha
      rw [if_neg hab, if_neg hab, frF_stable hT f f' (a + 1) (a + 1 + zN E a) (by omega) (Well.inner hT ha) (by omega) (by omega), frF_stable hT f f' (a + 1 + zN E a) b hb (hw.from (by omega)) (by omega) (by omega)]
def frs (E : Nat → Nd) (a b : Nat) : List Evt := frF E (b - a) a b
theorem frs_nil (E : Nat → Nd) {a b : Nat} (h : b ≤ a) : frs E a b = [] := by
  unfold frs; rw [show b - a = 0 by omega]; rfl
theorem frs_cons {E : Nat → Nd} {N a b : Nat} (hT : Tree E N) (hb : b ≤ N) (hw : Well E a b) (hab : a < b) :
    frs E a b = startOf (E a) ++ frs E (a + 1) (a + 1 + zN E a) ++ endOf (E a) ++ frs E (a + 1 + zN E a) b := by
  have ha : a < N := by omega
  have hz := hw a (Nat.le_refl _) hab
  have hs := hT.sz a ha
  unfold frs
  rw [show b - a = (b - a - 1) + 1 by omega, frF, if_neg (by omega), frF_stable hT (b - a - 1) (a + 1 + zN E a - (a + 1)) (a + 1) (a + 1 + zN E a) (by omega) (Well.inner hT ha) (by omega) (by omega),
    frF_stable hT (b - a - 1) (b - (a + 1 + zN E a)) (a + 1 + zN E a) b hb (hw.from (by omega)) (by omega) (by omega)]
/-- the events of a node -/
def evA (E : Nat → Nd) (a : Nat) : List Evt := frs E a (a + 1 + zN E a)
theorem evA_is {E : Nat → Nd} {N a : Nat} (hT : Tree E N) (ha : a < N) : evA E a = startOf (E a) ++ frs E (a + 1) (a + 1 + zN E a) ++ endOf (E a) := by
  have hs := hT.sz a ha
  unfold evA
  rw [frs_cons hT (by omega) (Well.node hT ha) (by omega), frs_nil E (Nat.le_refl _), List.append_nil]
theorem frs_evA {E : Nat → Nd} {N a b : Nat} (hT : Tree E N) (hb : b ≤ N) (hw : Well E a b) (hab : a < b) : frs E a b = evA E a ++ frs E (a + 1 + zN E a) b := by
  rw [frs_cons hT hb hw hab, evA_is hT (by omega : a < N)]
/-- no more events than twice as many as nodes -/
theorem frs_len {E : Nat → Nd} {N : Nat} (hT : Tree E N) : ∀ k a b, b - a ≤ k → b ≤ N → Well E a b → (frs E a b).length ≤ 2 * (b - a)
  | 0, a, b, h, _, _ => by rw [frs_nil E (by omega)]; simp
  | k + 1, a, b, h, hb, hw => by
    by_cases hab : b ≤ a
    · rw [frs_nil E hab]; simp
    · have ha : a < N := by omega
      have hz := hw a (Nat.le_refl _) (by omega)
      have hs := hT.sz a ha
      have h1 := frs_len hT k (a + 1) (a + 1 + zN E a) (by omega) (by omega) (Well.inner hT ha)
      have h2 := frs_len hT k (a + 1 + zN E a) b (by omega) hb (hw.from (by omega))
      rw [frs_cons hT hb hw (by omega)]
      have h3 : (startOf (E a)).length ≤ 1 := by unfold startOf; split <;> simp
      have h4 : (endOf (E a)).length ≤ 1 := by unfold endOf; split <;> simp
      simp only [List.length_append]
      omega
theorem evA_len {E : Nat → Nd} {N a : Nat} (hT : Tree E N) (ha : a < N) : (evA E a).length ≤ 2 * (1 + zN E a) := by
  have hs := hT.sz a ha
  have := frs_len hT _ a (a + 1 + zN E a) (Nat.le_refl _) (by omega) (Well.node hT ha)
  unfold evA
  omega

/-- what is still to come from a place on, with these elements open: the places of the last nodes within them, the innermost first -/
def outS (E : Nat → Nd) (b : Nat) : Nat → List Nat → List Evt
  | a, [] => frs E a b
  | a, e :: st => frs E a (e + 1) ++ endE :: outS E b (e + 1) st
/-- before a place is looked at -/
structure EvInv (E : Nat → Nd) (n b i : Nat) (ev : List Evt) (st : List Nat) : Prop where
  all : evA E n = ev ++ outS E b i st
  asc : st.Pairwise (· ≤ ·)
  each : ∀ e ∈ st, i ≤ e ∧ e < b ∧ ∃ c, n ≤ c ∧ c < i ∧ c + zN E c = e
/-- .. and when it was -/
structure EvPop (E : Nat → Nd) (n b i : Nat) (ev : List Evt) (st : List Nat) : Prop where
  all : evA E n = ev ++ outS E b (i + 1) st
  asc : st.Pairwise (· ≤ ·)
  each : ∀ e ∈ st, i ≤ e ∧ e < b ∧ ∃ c, n ≤ c ∧ c < i + 1 ∧ c + zN E c = e
theorem EvInv.zero (E : Nat → Nd) (n : Nat) : EvInv E n (n + 1 + zN E n) n [] [] := ⟨rfl, List.Pairwise.nil, fun e h => by cases h⟩
theorem EvPop.pop {E : Nat → Nd} {n b i : Nat} {ev : List Evt} {st : List Nat} (h : EvPop E n b i ev (i :: st)) : EvPop E n b i (ev ++ [endE]) st := by
  obtain ⟨h1, h2, h3⟩ := h
  refine ⟨?_, (List.pairwise_cons.1 h2).2, fun e he => h3 e (List.mem_cons_of_mem _ he)⟩
  rw [h1, outS, frs_nil E (Nat.le_refl _)]
  simp
theorem EvPop.next {E : Nat → Nd} {n b i : Nat} {ev : List Evt} {st : List Nat} (h : EvPop E n b i ev st) (ht : ∀ e st', st = e :: st' → e ≠ i) : EvInv E n b (i + 1) ev st := by
  obtain ⟨h1, h2, h3⟩ := h
  refine ⟨h1, h2, fun e he => ?_⟩
  obtain ⟨k1, k2, k3⟩ := h3 e he
  refine ⟨?_, k2, k3⟩
  cases st with
  | nil => cases he
  | cons t st' =>
    have hti := ht t st' rfl
    have := (h3 t (List.mem_cons_self ..)).1
    rcases List.mem_cons.1 he with rfl | he'
    · omega
    · have := (List.pairwise_cons.1 h2).1 e he'
      omega
theorem EvInv.done {E : Nat → Nd} {n b : Nat} {ev : List Evt} {st : List Nat} (h : EvInv E n b b ev st) : ev = evA E n := by
  obtain ⟨h1, _, h3⟩ := h
  cases st with
  | nil => rw [h1, outS, frs_nil E (Nat.le_refl _), List.append_nil]
  | cons e st => have := h3 e (List.mem_cons_self ..); omega
theorem outS_cons {E : Nat → Nd} {N n b i : Nat} {st : List Nat} (hT : Tree E N) (hb : b ≤ N) (hi : i < b) (hw : Well E i b) (he : ∀ e ∈ st, i ≤ e ∧ e < b ∧ ∃ c, n ≤ c ∧ c < i ∧ c + zN E c = e) :
    outS E b i st = startOf (E i) ++ frs E (i + 1) (i + 1 + zN E i) ++ endOf (E i) ++ outS E b (i + 1 + zN E i) st := by
  cases st with
  | nil => exact frs_cons hT hb hw hi
  | cons e st =>
    obtain ⟨k1, k2, c, _, k3, k4⟩ := he e (List.mem_cons_self ..)
    rw [outS, outS, frs_cons hT (by omega : e + 1 ≤ N) (fun k q1 q2 => by
      have := hT.nest c k (by omega) (by omega) (by omega)
      omega) (by omega)]
    simp
theorem EvInv.step {E : Nat → Nd} {N n i : Nat} {ev : List Evt} {st : List Nat} (hT : Tree E N) (hn : n < N) (hni : n ≤ i) (hi : i < n + 1 + zN E n) (h : EvInv E n (n + 1 + zN E n) i ev st) :
    EvPop E n (n + 1 + zN E n) i (ev ++ startOf (E i)) (if (E i).kind = 1 then (i + zN E i) :: st else st) := by
  obtain ⟨h1, h2, h3⟩ := h
  have hns := hT.sz n hn
  have hwn := Well.node hT hn
  have hzi := hwn i hni hi
  have hw := hwn.from hni
  have hout := outS_cons (n := n) hT (by omega) hi hw h3
  by_cases k1 : (E i).kind = 1
  · rw [if_pos k1]
    have hend : endOf (E i) = [endE] := if_pos k1
    refine ⟨?_, ?_, fun e he => ?_⟩
    · rw [h1, hout, hend, outS, show i + zN E i + 1 = i + 1 + zN E i by omega]
      simp
    · refine List.pairwise_cons.2 ⟨fun e he => ?_, h2⟩
      obtain ⟨q1, q2, c, q3, q4, q5⟩ := h3 e he
      have := hT.nest c i (by omega) q4 (by omega)
      omega
    · rcases List.mem_cons.1 he with rfl | he'
      · exact ⟨by omega, by omega, i, hni, by omega, rfl⟩
      · obtain ⟨q1, q2, c, q3, q4, q5⟩ := h3 e he'
        exact ⟨q1, q2, c, q3, by omega, q5⟩
  · rw [if_neg k1]
    have hend : endOf (E i) = [] := if_neg k1
    refine ⟨?_, h2, fun e he => ?_⟩
    · by_cases k6 : (E i).kind = 6
      · have e : i = n := by
          by_cases e : i = n
          · exact e
          · exact absurd k6 (hT.kin n i hn (by omega) (by omega))
        subst e
        have hst : st = [] := by
          cases st with
          | nil => rfl
          | cons e st =>
            obtain ⟨_, _, c, q3, q4, _⟩ := h3 e (List.mem_cons_self ..)
            omega
        subst hst
        rw [h1, hout, hend, outS, outS, frs_nil E (Nat.le_refl (i + 1 + zN E i))]
        simp
      · have hz := hT.leaf i (by omega) k1 k6
        rw [h1, hout, hend, hz, frs_nil E (Nat.le_refl _)]
        simp
    · obtain ⟨q1, q2, c, q3, q4, q5⟩ := h3 e he
      exact ⟨q1, q2, c, q3, by omega, q5⟩

/-- the children of a node, so far: up to the place i, the next one stands at j -/
structure Kids (E : Nat → Nd) (n i j : Nat) (P : List Evt) : Prop where
  le : i ≤ j
  lt : j ≤ n + 1 + zN E n
  no : ∀ k, i ≤ k → k < j → (E k).parent ≠ (n : Int)
  yes : j < n + 1 + zN E n → (E j).parent = (n : Int)
  all : frs E (n + 1) (n + 1 + zN E n) = P ++ frs E j (n + 1 + zN E n)
theorem Kids.zero {E : Nat → Nd} {N n : Nat} (hT : Tree E N) (hn : n < N) : Kids E n (n + 1) (n + 1) [] :=
  ⟨Nat.le_refl _, by omega, fun k h1 h2 => by omega, fun h => hT.first n hn (by omega), rfl⟩
theorem Kids.skip {E : Nat → Nd} {n i j : Nat} {P : List Evt} (h : Kids E n i j P) (hij : i < j) : Kids E n (i + 1) j P :=
  ⟨by omega, h.lt, fun k h1 h2 => h.no k (by omega) h2, h.yes, h.all⟩
theorem Kids.child {E : Nat → Nd} {N n i : Nat} {P : List Evt} (hT : Tree E N) (hn : n < N) (hni : n < i) (h : Kids E n i i P) (hi : i < n + 1 + zN E n) : Kids E n (i + 1) (i + 1 + zN E i) (P ++ evA E i) := by
  have hns := hT.sz n hn
  have hnest := hT.nest n i hn hni (by omega)
  refine ⟨by omega, by omega, fun k h1 h2 => ?_, fun h' => ?_, ?_⟩
  · have := hT.par i k (by omega) (by omega) (by omega)
    omega
  · exact hT.next n i hn hni (h.yes hi) (by omega)
  · rw [h.all, frs_evA hT (by omega) ((Well.inner hT hn).from (by omega)) hi, List.append_assoc]
theorem Kids.done {E : Nat → Nd} {n j : Nat} {P : List Evt} (h : Kids E n (n + 1 + zN E n) j P) : frs E (n + 1) (n + 1 + zN E n) = P := by
  have h1 := h.le
  rw [h.all, frs_nil E (by omega), List.append_nil]
theorem Kids.len {E : Nat → Nd} {N n i j : Nat} {P : List Evt} (hT : Tree E N) (hn : n < N) (h : Kids E n i j P) : P.length ≤ 2 * zN E n := by
  have hns := hT.sz n hn
  have := frs_len hT _ (n + 1) (n + 1 + zN E n) (Nat.le_refl _) (by omega) (Well.inner hT hn)
  rw [h.all, List.length_append] at this
  omega
end Go.Proofs.YtnfljohddpadhaaDoor
