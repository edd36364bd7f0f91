/-
  CONTRACT: the document's columns of an op (opCols), of whatever kind; what is refused of an op, step by step.
-/
import Derived.Test.YtkcejelmohameaaGreatDoorRdOp4
import Derived.Test.YtkcejelmohameaaGreatDoorRcCols
set_option linter.unusedVariables false
namespace Go.Proofs.YtkcejelmohameaaGreatDoor
set_option maxRecDepth 100000
open Go.RowKit Go.WideShapes

set_option maxHeartbeats 1600000 in
theorem opCols_is (o : Opm) (a b : Txts) (ia oa pa ra qa ca ca' : Option Addr) (ic oc pc rcc qc ck ck' : Nat) (w : World) (hcs : StrsIs w (.slice oa o.cols.len oc) o.cols.len o.cols.at_) (hos : StrsIs w (.slice pa o.olds.len pc) o.olds.len o.olds.at_) (hrc : StrsIs w (.slice ra o.rc.len rcc) o.rc.len o.rc.at_) (hrr : RowsIs w (.slice qa o.rm qc) o.rm o.rr) (hf : OpFine o) (ha : StrsIs w (.slice ca a.len ck) a.len a.at_) (hb : StrsIs w (.slice ca' b.len ck') b.len b.at_) (hma : a.len ≤ 8) (hmb : b.len ≤ 8) (hT : Tabs w) (hk : 1 ≤ o.kind ∧ o.kind ≤ 15) :
    Calls Tryz.prog 14 #[.agg #[.int .i64 o.kind, .slice ia o.nin ic, .string o.new, .slice oa o.cols.len oc, .slice pa o.olds.len pc, .string o.part, .string o.name, .int .i64 o.n, .int .i64 o.axis, .int .i64 o.tk, .string o.tn, .slice ra o.rc.len rcc, .slice qa o.rm qc], .slice ca a.len ck, .slice ca' b.len ck'] w fun e w' => OpR o a b w e w' := by
  have h : o.kind = 1 ∨ o.kind = 2 ∨ o.kind = 3 ∨ o.kind = 4 ∨ o.kind = 5 ∨ o.kind = 6 ∨ o.kind = 7 ∨ o.kind = 8 ∨ o.kind = 9 ∨ o.kind = 10 ∨ o.kind = 11 ∨ o.kind = 12 ∨ o.kind = 13 ∨ o.kind = 14 ∨ o.kind = 15 := by omega
  rcases h with h | h | h | h | h | h | h | h | h | h | h | h | h | h | h <;> rw [h]
  · exact opCols_1 o a b ia oa pa ra qa ca ca' ic oc pc rcc qc ck ck' w hcs hos hrc hrr hf ha hb hma hmb hT h
  · exact opCols_2 o a b ia oa pa ra qa ca ca' ic oc pc rcc qc ck ck' w hcs hos hrc hrr hf ha hb hma hmb hT h
  · exact opCols_3 o a b ia oa pa ra qa ca ca' ic oc pc rcc qc ck ck' w hcs hos hrc hrr hf ha hb hma hmb hT h
  · exact opCols_4 o a b ia oa pa ra qa ca ca' ic oc pc rcc qc ck ck' w hcs hos hrc hrr hf ha hb hma hmb hT h
  · exact opCols_5 o a b ia oa pa ra qa ca ca' ic oc pc rcc qc ck ck' w hcs hos hrc hrr hf ha hb hma hmb hT h
  · exact opCols_6 o a b ia oa pa ra qa ca ca' ic oc pc rcc qc ck ck' w hcs hos hrc hrr hf ha hb hma hmb hT h
  · exact opCols_7 o a b ia oa pa ra qa ca ca' ic oc pc rcc qc ck ck' w hcs hos hrc hrr hf ha hb hma hmb hT h
  · exact opCols_8 o a b ia oa pa ra qa ca ca' ic oc pc rcc qc ck ck' w hcs hos hrc hrr hf ha hb hma hmb hT h
  · by_cases hp : o.part.size = 0
    · exact opCols_9e o a b ia oa pa ra qa ca ca' ic oc pc rcc qc ck ck' w hcs hos hrc hrr hf ha hb hma hmb hT h hp
    · exact opCols_9n o a b ia oa pa ra qa ca ca' ic oc pc rcc qc ck ck' w hcs hos hrc hrr hf ha hb hma hmb hT h hp
  · cases hg : aggB o.name with
    | true => exact opCols_10y o a b ia oa pa ra qa ca ca' ic oc pc rcc qc ck ck' w hcs hos hrc hrr hf ha hb hma hmb hT h hg
    | false => exact opCols_10n o a b ia oa pa ra qa ca ca' ic oc pc rcc qc ck ck' w hcs hos hrc hrr hf ha hb hma hmb hT h hg
  · rcases fnA_cases o.name with hg | hg
    · exact opCols_11n o a b ia oa pa ra qa ca ca' ic oc pc rcc qc ck ck' w hcs hos hrc hrr hf ha hb hma hmb hT h hg
    · exact opCols_11y o a b ia oa pa ra qa ca ca' ic oc pc rcc qc ck ck' w hcs hos hrc hrr hf ha hb hma hmb hT h hg
  · cases hg : stepB o.axis o.tk with
    | true => exact opCols_12y o a b ia oa pa ra qa ca ca' ic oc pc rcc qc ck ck' w hcs hos hrc hrr hf ha hb hma hmb hT h hg
    | false => exact opCols_12n o a b ia oa pa ra qa ca ca' ic oc pc rcc qc ck ck' w hcs hos hrc hrr hf ha hb hma hmb hT h hg
  · exact opCols_13 o a b ia oa pa ra qa ca ca' ic oc pc rcc qc ck ck' w hcs hos hrc hrr hf ha hb hma hmb hT h
  · exact opCols_14 o a b ia oa pa ra qa ca ca' ic oc pc rcc qc ck ck' w hcs hos hrc hrr hf ha hb hma hmb hT h
  · exact opCols_15 o a b ia oa pa ra qa ca ca' ic oc pc rcc qc ck ck' w hcs hos hrc hrr hf ha hb hma hmb hT h
/-- what is refused of the i-th op, in the document's order -/
theorem opF_kind {P : Nat → Opm} {i : Nat} (h : ¬ (1 ≤ (P i).kind ∧ (P i).kind ≤ 15)) : opF P i = 3 := by
  have e : aloF (P i) i = 3 := by unfold aloF; rw [if_neg h]
  unfold opF
  rw [e]
  rfl
theorem opF_count {P : Nat → Opm} {i : Nat} (h : 1 ≤ (P i).kind ∧ (P i).kind ≤ 15) (h2 : ¬ (P i).nin = inC (P i).kind) : opF P i = 11 := by
  have e : aloF (P i) i = 11 := by unfold aloF; rw [if_pos h, if_neg h2]
  unfold opF
  rw [e]
  rfl
theorem opF_ins {P : Nat → Opm} {i : Nat} (h : 1 ≤ (P i).kind ∧ (P i).kind ≤ 15) (h2 : (P i).nin = inC (P i).kind) (h3 : insB (P i) i = false) : opF P i = 2 := by
  have e : aloF (P i) i = 2 := by unfold aloF; rw [if_pos h, if_pos h2, if_neg (by rw [h3]; decide)]
  unfold opF
  rw [e]
  rfl
theorem opF_rest {P : Nat → Opm} {i : Nat} (h : 1 ≤ (P i).kind ∧ (P i).kind ≤ 15) (h2 : (P i).nin = inC (P i).kind) (h3 : insB (P i) i = true) :
    opF P i = if opE (P i) (inT (P i) (colK P) 0) (inT (P i) (colK P) 1) = 0 then colsF (colK P i).at_ (colK P i).len else opE (P i) (inT (P i) (colK P) 0) (inT (P i) (colK P) 1) := by
  have e : aloF (P i) i = ownF (P i) := by unfold aloF; rw [if_pos h, if_pos h2, if_pos h3]
  unfold opF outF
  rw [e, ← colK_is h3]
  unfold opE
  by_cases h4 : ownF (P i) = 0
  · rw [if_pos h4, if_pos h4]
    by_cases h5 : namB (P i) (inT (P i) (colK P) 0) (inT (P i) (colK P) 1) = true
    · rw [if_pos h5, if_pos h5, if_pos rfl]
    · rw [if_neg h5, if_neg h5]; rfl
  · rw [if_neg h4, if_neg h4, if_neg h4]
theorem insB_noD {o : Opm} {i q : Nat} (hq : q < o.nin) (h : ¬ (0 ≤ o.ins q ∧ o.ins q < i)) : insB o i = false := by
  unfold insB
  rw [List.all_eq_false]
  exact ⟨q, List.mem_range.2 hq, by simpa using h⟩
theorem insB_yesD {o : Opm} {i : Nat} (h : ∀ q, q < o.nin → 0 ≤ o.ins q ∧ o.ins q < i) : insB o i = true := by
  unfold insB
  rw [List.all_eq_true]
  exact fun q hq => by simpa using h q (List.mem_range.1 hq)
/-- the sizes of the columns -/
theorem outC_sizes {o : Opm} {a b : Txts} (hf : OpFine o) (ha : ∀ i, i < a.len → (a.at_ i).size ≤ maxLen) (hb : ∀ i, i < b.len → (b.at_ i).size ≤ maxLen) : ∀ i, i < (outC o a b).len → ((outC o a b).at_ i).size ≤ maxLen := by
  have happ : ∀ c : Txts, (∀ i, i < c.len → (c.at_ i).size ≤ maxLen) → ∀ i, i < (appS a c).len → ((appS a c).at_ i).size ≤ maxLen := fun c hc i hi => by
    show (if i < a.len then a.at_ i else c.at_ (i - a.len)).size ≤ maxLen
    have hi' : i < a.len + c.len := hi
    by_cases h : i < a.len
    · rw [if_pos h]; exact ha i h
    · rw [if_neg h]; exact hc _ (by omega)
  have hon : ∀ s : ByteArray, s.size ≤ maxLen → ∀ i, i < (onC s).len → ((onC s).at_ i).size ≤ maxLen := fun s hs i _ => hs
  unfold outC
  split
  · exact hf.rc.2
  split
  · exact hf.cols.2
  split
  · exact happ b hb
  split
  · exact happ _ (hon _ hf.new)
  split
  · intro i hi
    show (if i = 0 then o.part else o.new).size ≤ maxLen
    split
    · exact hf.part
    · exact hf.new
  split
  · exact itC_fine.2
  split
  · exact itemC_fine.2
  · exact ha
end Go.Proofs.YtkcejelmohameaaGreatDoor
